import Derived.Test.YthdeofoleiiibaaGreatDoorSpecBody2
import Derived.Maps.Own
import Derived.Maps.OwnSet
import Derived.Maps.Views
import Derived.Maps.RangeWalk
namespace Go.Proofs.YthdeofoleiiibaaGreatDoor
open Go.RowKit
set_option maxRecDepth 100000
set_option maxHeartbeats 16000000
variable {q:Int}{w W W0 w' W':World}{lo base hi g D k B r n l:Nat}{ts:List (Int×Bool)}{a v vL vM vK:Value}{xs rs:List Int}{cs:List Value}{tL tM tK:TypeId}
theorem iy (z:Value)(m n:Nat)(b:0<m:=by omega):(madeCells (List.replicate m z).toArray n).toList=List.replicate n z:=by
 apply rC;intro j;by_cases a:j<n
 ·have:j % m<m:=nF _ b;simp[madeCells,a,this]
 ·simp[madeCells,a]
theorem Xk (A B:List (Int×Bool)):jo (A++B)=jo A++jo B:=by unfold jo;rw[pW]
theorem EL (n:Nat):(madeCells #[za 0,.bool false] (n*2)).toList=jo (List.replicate n (0,false)):=by
 apply rC;intro j;by_cases f:j<n*2
 ·have a:j/2<n:=zk;obtain⟨d,e⟩:=fq (za 0) (.bool false) n (j/2) a;obtain⟨b,c⟩:=YM (List.replicate n (0,false)) (j/2) (by simpa using a);have g:(List.replicate n ((0:Int),false)).getD (j/2) (0,false)=(0,false):=by simp[a]
  rw[g] at b c;rcases sH j with h|h
  ·rw[show j=j/2*2 by omega,d,b]
  ·rw[show j=j/2*2+1 by omega,e,c]
 ·rw[tj (by simp[madeCells];omega),tj (by rw[Qu];simp;omega)]
theorem aJ (A:List (Int×Bool))(m k:Nat)(b:A.length=k)(x:Int)(e:Bool):((jo (A++List.replicate (m+1) (0,false))).set (k*2) (za x)).set (k*2+1) (.bool e)=jo (A++ [(x,e)]++List.replicate m (0,false)):=by
 have c:(jo A).length=k*2:=by rw[Qu,b]
 have a:jo (List.replicate (m+1) ((0:Int),false))=za 0:: .bool false::jo (List.replicate m (0,false)):=by rw[tw];rfl
 rw[Xk,Xk,Xk,a,tz _ _ zk,tz _ _ zk,c,pf,pI];simp[jo]
theorem JV {P:Program}{ops:Array Oper}{rest:List Oper}{o:Oper}{a:Act}{Q:Exit→Act→World→Prop}(d:o.guard=none)(T:TypeId)(p v:Operand)(l:o.op= .store T p v)(e:o.dst=none)(g b:Nat)(m:a.eval p= .pointer (some ⟨g,b,none⟩))
  (full L:List Value) (t:TypeId) (q:a.eval v= .agg full.toArray) (c:w.heap[g]?=some (zi L.toArray t)) (k:b+full.length≤L.length) (hi:(P.info? T).map (·.size)=some full.length) (h1: ∀v∈full,v.oneCell'=true)
  (h: ∀w',Hid (w'.heap[g]?=some (zi (splice L b full).toArray t))→zr g (g+1) w w'→wpList P ops Q rest a w'):wpList P ops Q (o::rest) a w:=by
 have n:w.there g b full.toArray.size:=by
  intro j f;have i:j<full.length:=by simpa using f
  refine⟨?_,?_⟩
  ·simp only[World.cell?,c];simp;omega
  ·simp[World.frozen?,c]
 refine oV d fun K hK=>?_;refine wp_store_mid T p v l g b full.toArray m q n (by simpa using hi) (by rw[tm];intro x r;exact h1 x (by simpa using r)) ?_;rw[e];exact hK _ _ (h _ (jr g t full b w L c k) (zr.setCells g _ b w))
theorem gG (w:World)(a:Addr)(n cap:Nat)(b:64≤n:=by omega):(Instr.arrayAt 78 (zj (some a) n cap)).run Tryz.prog w= .ok (.pointer (some a)) w:=by
 have: ¬n<64:=zk;simp[Instr.arrayAt,run_underlying Tryz.underlying78,this]
theorem Tryz.infoBk:(Tryz.prog.info? 78).map (fun i=>(i.zero,i.size,i.bytes))=some (some (.agg (List.replicate 64 (zb 0)).toArray),64,64):=zl
theorem dK {size:Nat}{e:TypeId}{xs:List Value}(h:w.ownsRow base e size (zg g n n) n xs):qR w g e xs∧base≤g:=by
 obtain⟨h1,h2⟩:=h;rcases h2 with⟨e,_⟩|⟨f,cap,a,e,b,c,i,j,hs,d⟩
 ·cases e
 ·cases e
  refine⟨?_,b⟩;unfold qR;rw[c];have:xs=a.toList:=by rw[←d];exact ny (by rw[rX,hs];exact mP _)
  rw[this]
def Jv (hs:List Wr) (k:Nat):List Value:=List.replicate 64 (zb 0)++(Z0 (hs.take k)).map (Value.int .u8)++List.replicate (64*(hs.length-k)) (zb 0)
theorem gJ {hs:List Wr}(h: ∀x∈hs,x.2.length=64)(a:k<hs.length):splice (Jv hs k) (64+64*k) ((Zi (hs.getD k (0,[])).2).map (Value.int .u8))=Jv hs (k+1):=by
 have c:=h _ (nj a);have b:hs.getD k (0,[])=hs[k]:=by simp[a]
 rw[←b] at c;unfold Jv;rw[EK _ _ _ _ _ (by rw[mL,mO,nC,Yq (fun x b=>h x (ot b)),mW,ol zk]),Ep a,m6,mO,jX c,nk (List.replicate 64 _)];congr 2;omega
theorem Ks {hs:List Wr}(h: ∀x∈hs,x.2.length=64)(b:k≤hs.length:=by omega):(Jv hs k).length=64+64*hs.length:=by
 unfold Jv;rw[mL,mL,mO,nC,nC,Yq (fun x a=>h x (ot a)),mW,ol zk];omega
theorem eG (hs:List Wr):Jv hs 0=List.replicate ((1+hs.length)*64) (zb 0):=by
 unfold Jv;rw[oI];show _++ []++_=_;rw[nw,List.replicate_append_replicate];congr 1;omega
theorem eF {hs:List Wr}(a:(Jw q hs).length=64):splice (Jv hs hs.length) 0 ((Jw q hs).map (Value.int .u8))=((zW q hs).flatten).map (Value.int .u8):=by
 unfold Jv;rw[nV,pf];unfold splice;rw[oI,nG,mO,a,nk,pY,pp zn];unfold zW Z0;simp
theorem K2 (w:World)(q:Int)(hs:List Wr)(b ah cap:Nat)(aM:OkT q hs [])(h0:1≤hs.length)(hl:hs.length≤17)(hM:Mag w)
  (h1: ∀i,i<hs.length→ ∃dv,w.cell? ⟨b,ah+i*2,none⟩=some (za (hs.getD i (0,[])).1)∧w.cell? ⟨b,ah+i*2+1,none⟩=some dv∧zC w lo hi .u8 dv (hs.getD i (0,[])).2):
  Calls Tryz.prog 119 #[za q,zj (some ⟨b,ah,none⟩) hs.length cap] w fun e w'=> ∃g,e= .returned (zg g (1+hs.length) (1+hs.length))∧w.heap.size≤g∧qR w' g 78 ((zW q hs).flatten.map (Value.int .u8))∧zr 0 0 w w':=by
 obtain⟨n,hn⟩: ∃n,n=hs.length:=⟨_,rfl⟩;have F:Hid _:=hn;have a:Hid (OkT q hs []):=aM;have HM:Hid (Mag w):=hM;have H1:Hid _:=h1;rw[←hn] at h0 hl⊢;clear aM hM h1 hn;obtain⟨it,aY,a1,a2,a3⟩:=na Tryz.infoG;obtain⟨ib,aX,aS,aT,aU⟩:=na Tryz.infoBk;have a6:IntKind.i64.wrap (1+(n:Int))=1+(n:Int):=by rw[mS];omega
 go_enter Tryz.func119,Tryz.ntmps119;go_wp2_with (at_make;refine pV _ rfl _ _ 167 rfl w.heap.size 174 it _ 2 Tryz.underlying167 aY a1 a2 _ _ _ _ n rfl rfl rfl rfl (by rw[a3];omega) (by unfold maxLen;omega) zk ?_);intro w1 D R;obtain⟨ab,_⟩:=dK D;have aH:zr 0 0 w w1:=zr.ofGrown R zn;have ai:Hid (qR w1 w.heap.size 174 (jo (List.replicate n (0,false)))):=by show qR _ _ _ _;rw[←EL];exact ab
 have aq:Hid _:=aH;have s1:=ab.lt;clear D R ab aH;go_wp2_with (at_make;refine pV _ rfl _ _ 96 rfl w.heap.size 78 ib _ 64 Tryz.underlying96 aX aS aT _ _ _ _ (1+n) rfl rfl zk zk (by rw[aU];omega) (by unfold maxLen;omega) zk ?_);intro w2 E S;obtain⟨ac,_⟩:=dK E;have ad:zr 0 0 w1 w2:=zr.ofGrown S zn;have o:Hid (qR w2 w1.heap.size 78 (Jv hs 0)):=by show qR _ _ _ _;rw[eG,←F.out,←iy (zb 0) 64 ((1+n)*64)];exact ac
 have aj:Hid _:=ai.chg ad zk;have r:Hid _:=aq.trans ad;have s2:=ac.lt;clear E S ac ad ai aq;generalize w1.heap.size=gB at*;go_wp2;go_loopw [20] (fun x wr=> ∃k:Nat,k≤n∧x=za k∧qR wr w.heap.size 174 (jo ((hs.take k).map z9++List.replicate (n-k) (0,false)))∧qR wr gB 78 (Jv hs k)∧zr 0 0 w wr) (fun x _=>n-(intOf x).toNat)
 case atStart=>exact⟨0,mX _,rfl,aj,o,r⟩
 case round=>
  clear aj o r;obtain⟨k,hk,rfl,J,hb,K⟩:=hrel;by_cases a9:k<n
  ·have l:k<hs.length:=by have:=F.out;omega
   have hi':(k:Int)<(n:Int):=zk;obtain⟨dv,r1,r2,r3⟩:=H1.out k l;have c1:=K.cell r1;have c2:=K.cell r2;have v3:=r3.chg K zk;have hx:hs.getD k (0,[])=hs[k]:=by simp[l]
   have c:=a.data _ (nj l);have z:=a.byt _ (nj l);rw[←hx] at c z;obtain⟨xb,xo,m,rfl,ag⟩: ∃xb xo m,dv=zj (some ⟨xb,xo,none⟩) 64 m∧wr.rangeAt xb xo ((hs.getD k (0,[])).2.map (Value.int .u8)):=by
    obtain⟨ao,m,e,_,_,h⟩:=v3;rcases h with h|⟨xb,xo,rfl,_,_,h3⟩
    ·rw[h] at c;simp at c
    ·refine⟨xb,xo,m,by rw[e,c],fun j v hj=>?_⟩;have af:j<(hs.getD k (0,[])).2.length:=by have:=(nD.1 hj).1;simpa using this
     rw[h3 j af,←hj];simp only[mV] at af⊢;simp[af]
   have u:Hid _:=gJ a.data l;have HBl:Hid ((Jv hs k).length=64+64*n):=by show _=_;rw[Ks a.out.data,F.out]
   have Z:Hid (((jo ((hs.take k).map z9++List.replicate (n-k) (0,false))).set (k*2) (za (hs.getD k (0,[])).1)).set (k*2+1) (.bool (decide ((hs.getD k (0,[])).2.take 4=mg)))=jo ((hs.take (k+1)).map z9++List.replicate (n-(k+1)) (0,false))):=by
    show _=_;rw[show n-k=n-(k+1)+1 by omega,aJ _ _ _ (by rw[mO,mW];omega),EO l];rfl
   have H:Hid ((jo ((hs.take k).map z9++List.replicate (n-k) (0,false))).length=n*2):=by
    show _=_;rw[Qu,mL,mO,mW,nC];omega
   have hM:=HM.chg K zk;have HA:Hid (qR wr w.heap.size 174 (jo ((hs.take k).map z9++List.replicate (n-k) (0,false)))):=J;have HB:Hid (qR wr gB 78 (Jv hs k)):=hb;have HC:Hid _:=K;have aw:Hid _:=jX c;have aa:Hid _:=c;have az:Hid _:=z;have aV:=hb.lt;have aW:=J.lt;generalize jo ((hs.take k).map z9++List.replicate (n-k) (0,false))=tC at*;generalize Jv hs k=bC at*;clear r1 r2 r3 v3 hx c z J hb K;generalize hs.getD k (0,[])=aZ at*
   obtain⟨x,I⟩:=aZ;simp only at c1 ag u Z aw aa az;obtain⟨cs,L⟩: ∃cs,cs=I.map (Value.int .u8):=⟨_,rfl⟩;have aA:Hid (wr.rangeAt xb xo cs):=by show wr.rangeAt _ _ _;rw[L];exact ag
   have aK:cs.length=64:=by rw[L,mO];exact aa
   have hics:(Tryz.prog.info? 78).map (·.size)=some cs.length:=by rw[aK];kernel_rfl
   have Q:=fun W (h:Mag W)=>UE W I aa.out az h;rw[←L] at Q;obtain⟨es,f⟩: ∃es,es=(Zi I).map (Value.int .u8):=⟨_,rfl⟩;rw[←f] at Q;obtain⟨ee,N⟩: ∃ee,ee=decide (I.take 4=mg):=⟨_,rfl⟩;rw[←N] at Q;have a5:Hid _:=f;have a4:Hid _:=N;have Hesl:Hid (es.length=64):=by show _=_;rw[f,mO];exact aw.out
   have P:Hid (∀v∈es,v.oneCell'=true):=by show∀v∈es,v.oneCell'=true;rw[f];exact nf _ _
   have B:(Tryz.prog.info? 78).map (·.size)=some es.length:=by rw[Hesl.out];kernel_rfl
   rw[←f] at u;rw[←N] at Z;clear L f N aK;have a7:=fun w'=>gG w' ⟨xb,xo,none⟩ 64 m;have u44:=Tryz.underlying78;have C3:zr 0 0 wr (wr.alloc (zi #[za x,zj (some ⟨xb,xo,none⟩) 64 m] 68)):=zr.al wr;have X:Hid ((wr.alloc (zi #[za x,zj (some ⟨xb,xo,none⟩) 64 m] 68)).heap[wr.heap.size]?=some (zi #[za x,zj (some ⟨xb,xo,none⟩) 64 m] 68)):=zt _ _;have ak:Hid (qR (wr.alloc (zi #[za x,zj (some ⟨xb,xo,none⟩) 64 m] 68)) w.heap.size 174 tC):=HA.chg C3 zk
   have HB3:Hid (qR (wr.alloc (zi #[za x,zj (some ⟨xb,xo,none⟩) 64 m] 68)) gB 78 bC):=HB.chg C3 zk;have s:Hid _:=HC.trans C3;have HX3:Hid ((wr.alloc (zi #[za x,zj (some ⟨xb,xo,none⟩) 64 m] 68)).rangeAt xb xo cs):=fun j v hj=>C3.cell (aA j v hj);have aC:=hM.chg C3 zk;have s3:(wr.alloc (zi #[za x,zj (some ⟨xb,xo,none⟩) 64 m] 68)).heap.size=wr.heap.size+1:=zn;clear C3 HA HB HC aA ag hM;go_upto_region 6 with fail
   clear c1 c2;generalize wr.alloc (zi #[za x,zj (some ⟨xb,xo,none⟩) 64 m] 68)=w3 at*;obtain⟨d0,d1,_,_⟩:=zw X;go_wp2_with (refine nM rfl 78 (.tmp 28) rfl xb xo rfl cs _ HX3.out u44 rfl hics ?_);refine(Q w3 aC).mono ?_;rintro e w4 ⟨rfl,h4⟩;have ax:Hid _:=h4.bt X;have C5:zr 0 0 w4 (w4.alloc (zi Z64.toArray 78)):=zr.al w4;have s4:=h4.size;have hZ:(w4.alloc (zi Z64.toArray 78)).heap[w4.heap.size]?=some (zi Z64.toArray 78):=zt _ _
   rw[←qd] at hZ;have HZ:Hid (_=_):=hZ;have T:Hid (qR (w4.alloc (zi Z64.toArray 78)) w.heap.size 174 tC):=(ak.chg h4 zk).chg C5 zk;have U:Hid (qR (w4.alloc (zi Z64.toArray 78)) gB 78 bC):=(HB3.chg h4 zk).chg C5 zk;have V:Hid _:=(s.trans h4).trans C5;have G:Hid _:=C5.bt ax;clear hZ h4 C5 ak HB3 s X ax HX3 Q d0 d1 aC;rw[←qd] at T U V G;go_upto_region 7 with(refine wpList_store_row rfl 78 (.tmp 9) (.tmp 31) rfl rfl w4.heap.size rfl es _ 78 rfl HZ.out (by rw[Hesl.out];rfl) B P.out ?_;intro w5 aF A)
   have d:Hid (qR w5 w.heap.size 174 tC):=T.chg A zk;have an:Hid (qR w5 gB 78 bC):=U.chg A zk;have ar:Hid _:=V.step A;have aB:=(A.bk _ (zE G)).trans G;obtain⟨d0,d1,_,_⟩:=zw aB;have Y:Hid _:=aF;have t0:=d.out.cell (k*2) (mZ (show k*2<tC.length by rw[H.out];omega));have t1:=d.out.cell (k*2+1) (mZ (show k*2+1<tC.length by rw[H.out];omega));have f0:=d.frozen (k*2);have f1:=d.frozen (k*2+1);generalize tC[k*2]'(by rw[H.out];omega)=tv0 at*
   generalize tC[k*2+1]'(by rw[H.out];omega)=tv1 at*;clear HZ T U V G aF A aB;have am:Hid (qR ((w5.setCell ⟨w.heap.size,k*2,none⟩ (za x)).setCell ⟨w.heap.size,k*2+1,none⟩ (.bool ee)) w.heap.size 174 (jo ((hs.take (k+1)).map z9++List.replicate (n-(k+1)) (0,false)))):=by
    show qR _ _ _ _;rw[←Z.out];exact(d.put (k*2) _).put (k*2+1) _
   have C7:zr w.heap.size (w.heap.size+1) w5 ((w5.setCell ⟨w.heap.size,k*2,none⟩ (za x)).setCell ⟨w.heap.size,k*2+1,none⟩ (.bool ee)):=zr.setCell (zr.setCell (zr.refl _ _ _) (p:=⟨w.heap.size,k*2,none⟩) (Or.inl ⟨mP _,m5 _⟩) _) (p:=⟨w.heap.size,k*2+1,none⟩) (Or.inl ⟨mP _,m5 _⟩) _;have ap:Hid _:=an.chg C7 zk;have au:Hid _:=ar.step C7;have aD:=(C7.bk _ (zE Y)).trans Y;have ay:Hid _:=zy aD;clear C7 d an ar Y aD
   go_upto_region 8 with fail;clear t0 t1 f0 f1 d0 d1;generalize ((w5.setCell ⟨w.heap.size,k*2,none⟩ (za x)).setCell ⟨w.heap.size,k*2+1,none⟩ (.bool ee))=w7 at*;have q1:IntKind.i64.wrap (1+(k:Int))=1+(k:Int):=by rw[mS];omega
   have q2:1+(k:Int)<((1+n:Nat):Int):=zk;have q3:(1+(k:Int)).toNat*64=64+64*k:=zk;go_wp2_with (first
    |(refine nM rfl 78 (.tmp 9) rfl w4.heap.size 0 rfl es _ ay u44 rfl B ?_)
    |(refine JV rfl 78 (.tmp 44) (.tmp 43) rfl rfl gB (64+64*k) rfl es bC 78 rfl ap (by rw[HBl.out,Hesl.out];omega) B P ?_;intro w8 aG ae))
   have HB8:Hid (qR w8 gB 78 (Jv hs (k+1))):=by show qR _ _ _ _;rw[←u.out];exact aG.out
   have HA8:Hid _:=am.chg ae zk;have HC8:Hid _:=au.step ae;clear aG ae am ap au ay q1 q2 q3;go_wp2;go_roundw
   case rel=>exact⟨k+1,zk,by go_num,HA8.out,HB8.out,HC8.out⟩
   case measure=>simp[intOf];omega
  ·obtain rfl:k=n:=zk;have a8: ¬((k:Int)<(k:Int)):=zk;have ht:hs.take k=hs:=ny (by have:=F.out;omega);rw[ht,pf] at J;simp only[rK,nw] at J;have aV:=hb.lt;have aW:=J.lt;have hM:=HM.chg K zk;have C:(hs.map z9).length=k:=by rw[mO];exact F.symm
   have av:Hid ((Jw q hs).length=64):=bD a.q0 a.q1 (by rw[←F.out];omega) a.homes_in;have aP:Hid (∀W,zr 0 0 wr W→ ∀i,i<(hs.map z9).length→W.cell? ⟨w.heap.size,0+i*2,none⟩=some (za ((hs.map z9).getD i (0,false)).1)∧W.cell? ⟨w.heap.size,0+i*2+1,none⟩=some (.bool ((hs.map z9).getD i (0,false)).2)):=fun W hW i hi=>by
    obtain⟨e1,e2⟩:=YM (hs.map z9) i hi;rw[ni];exact⟨hW.cell (J.cell _ e1),hW.cell (J.cell _ e2)⟩
   have a0:q≤9223372036854775807:=by have:=a.q1;omega
   have O:Hid (∀W,zr 0 0 wr W→Calls Tryz.prog 145 #[.agg #[zb 106,zb 108,zb 111,zb 103,za 2,za k,za q,zg w.heap.size k k]] W fun e w'=>e= .returned (.agg ((Jw q hs).map (Value.int .u8)).toArray)∧zr 0 0 W w'):=fun W hW=>by
    have h:=J3 W k q (hs.map z9) w.heap.size 0 k zk a0 (pn2) (pn4 (by have:=a.q0;omega) a.q1) (by rw[C];omega) (fun x hx=>by obtain⟨y,hy,rfl⟩:=m9.1 hx;exact a.homes_in y hy) (aP W hW);rw[C] at h;unfold Jw;rw[←F.out];exact h
   have t:Hid (splice (Jv hs k) 0 ((Jw q hs).map (Value.int .u8))=((zW q hs).flatten).map (Value.int .u8)):=by show _=_;rw[F.out];exact eF av.out
   have HBl:Hid ((Jv hs k).length=64+64*k):=by show _=_;rw[Ks a.out.data (by rw[F.out];omega),←F.out]
   have HB:Hid (qR wr gB 78 (Jv hs k)):=hb;have HC:Hid _:=K;obtain⟨ds,M⟩: ∃ds,ds=(Jw q hs).map (Value.int .u8):=⟨_,rfl⟩;rw[←M] at O t;have Hdl:Hid (ds.length=64):=by show _=_;rw[M,mO];exact av.out
   have aQ:Hid (∀v∈ds,v.oneCell'=true):=by show∀v∈ds,v.oneCell'=true;rw[M];exact nf _ _
   have aL:(Tryz.prog.info? 78).map (·.size)=some ds.length:=by rw[Hdl.out];kernel_rfl
   have q2:(0:Int)<((1+k:Nat):Int):=zk;generalize Jv hs k=bC at*;clear M J hb K C ht;go_wp2_with fail;refine(XY wr q w.heap.size 0 k k zk hM).mono ?_;rintro e w2 ⟨rfl,h2⟩;have r:Hid _:=HC.trans h2;have o:Hid (qR w2 gB 78 bC):=HB.chg h2 zk;have Q:=O.out w2 h2;clear h2 HB HC;go_wp2_with fail;refine Q.mono ?_;rintro e w3 ⟨rfl,h3⟩;have s:Hid _:=r.trans h3;have HB3:Hid _:=o.chg h3 zk;clear h3 o r Q;go_wp2_with (refine JV rfl 78 (.tmp 52) (.tmp 51) rfl rfl gB 0 rfl ds bC 78 rfl HB3.out (by rw[HBl.out,Hdl.out];omega) aL aQ.out ?_;intro w4 aE aI)
   have aN:Hid (qR w4 gB 78 ((zW q hs).flatten.map (Value.int .u8))):=by show qR _ _ _ _;rw[←t.out];exact aE.out
   have aO:Hid _:=s.step aI;have aR:Hid (w.heap.size≤gB):=by show _≤_;omega
   clear aE aI HB3 s;go_wp2;go_ret;exact⟨_,rfl,aR,aN,aO⟩
theorem Tryz.infoT9:(Tryz.prog.info? 174).map (fun i=>(i.zero,i.size,i.bytes))=some (some (.agg #[za 0,.bool false]),2,16):=zl
abbrev fR (n:Nat):Obj:= .cells (jo (List.replicate n (0,false))).toArray 174
abbrev E3:Obj:= .cells #[zb 0,zb 0,zb 0,zb 0,za 0,za 0,za 0,zc] 235
theorem Kg (n:Nat)(f:n≤1048576)(w:World):(Instr.makeSlice 167 (za n) (za n)).run Tryz.prog w= .ok (zg w.heap.size n n) (w.alloc (fR n)):=by
 obtain⟨i,hi,a,b,c⟩:=na Tryz.infoT9;have h:=run_make (P:=Tryz.prog) w 167 174 i _ Tryz.underlying167 hi a .i64 .i64 n n zk (pd _) (by rw[c];omega) zk;have e:((n:Int)).toNat=n:=zk;have d:madeCells #[za 0,.bool false] (n*2)=(jo (List.replicate n (0,false))).toArray:=by
  rw[←EL]
 rw[h,b,e];show Result.ok _ (w.alloc (zi (madeCells #[za 0,.bool false] (n*2)) 174))=_;rw[d]
theorem aV {P:Program}{o:Oper}{a:Act}{K:Act→World→Prop}{Q:Exit→Act→World→Prop}(T:TypeId)(p v:Operand)(k:o.op= .store T p v)(d:o.dst=none)(g b:Nat)(l:a.eval p= .pointer (some ⟨g,b,none⟩))
  (full L:List Value) (t:TypeId) (n:a.eval v= .agg full.toArray) (c:w.heap[g]?=some (zi L.toArray t)) (i:b+full.length≤L.length) (hi:(P.info? T).map (·.size)=some full.length) (h1: ∀v∈full,v.oneCell'=true)
  (h: ∀w',w'.heap[g]?=some (zi (splice L b full).toArray t)→zr g (g+1) w w'→K a w'):o.wp P a w K Q:=by
 have m:w.there g b full.toArray.size:=by
  intro j e;have f:j<full.length:=by simpa using e
  refine⟨?_,?_⟩
  ·simp only[World.cell?,c];simp;omega
  ·simp[World.frozen?,c]
 refine wp_store_mid T p v k g b full.toArray l n m (by simpa using hi) (by rw[tm];intro x q;exact h1 x (by simpa using q)) ?_;rw[d];exact h _ (jr g t full b w L c i) (zr.setCells g _ b w)
structure StD (W0:World)(D:Nat)(W:World)(cs:List Value)(ts:List (Int×Bool))(q:Int)(G L:Option Nat):Prop where
 sp:W.heap[D+1]?=some (zi (List.toArray [zb 106,zb 108,zb 111,zb 103,za 2,za (ts.length:Int),za q]) 146)∧W.heap[D]?=some (zi cs.toArray 78)
 ch:zr 0 0 W0 W
 lt:D+1<W0.heap.size
 ln:ts.length≤17
 row: ∀g,G=some g→W0.heap.size≤g∧qR W g 174 (jo (List.replicate ts.length (0,false)))
 blk: ∀b,L=some b→W0.heap.size≤b∧W.heap[b]?=some (zi (List.toArray [zb 0,zb 0,zb 0,zb 0,za 0,za 0,za 0,zc]) 235)
theorem StD.chg {G L:Option Nat}(h:StD W0 D W cs ts q G L)(c:zr 0 0 W W'):StD W0 D W' cs ts q G L:=
 ⟨⟨(c.bk _ (zE h.sp.1)).trans h.sp.1,(c.bk _ (zE h.sp.2)).trans h.sp.2⟩,h.ch.trans c,h.lt,h.ln,fun g d=>⟨(h.row g d).1,(h.row g d).2.chg c zk⟩,fun b a=>⟨(h.blk b a).1,(c.bk b (rF.1 (h.blk b a).2).1).trans (h.blk b a).2⟩⟩
theorem StD.make {L:Option Nat}(h:StD W0 D W cs ts q none L):StD W0 D (W.alloc (fR ts.length)) cs ts q (some W.heap.size) L:=by
 have a:=h.chg (zr.alloc (zr.refl 0 0 W) (fR ts.length));exact⟨a.sp,a.ch,h.lt,h.ln,fun g b=>by cases b;exact⟨h.ch.size,qR.new W _ _⟩,a.blk⟩
theorem StD.alloc {G:Option Nat}(h:StD W0 D W cs ts q G none):StD W0 D (W.alloc E3) cs ts q G (some W.heap.size):=by
 have a:=h.chg (zr.alloc (zr.refl 0 0 W) E3);exact⟨a.sp,a.ch,h.lt,h.ln,a.row,fun b c=>by cases c;exact⟨h.ch.size,zt W _⟩⟩
structure DrD (W0:World)(D B g:Nat)(W:World)(cs:List Value)(ts:List (Int×Bool))(q:Int)(k:Nat):Prop where
 sp:W.heap[D+1]?=some (zi (List.toArray [zb 106,zb 108,zb 111,zb 103,za 2,za (ts.length:Int),za q]) 146)∧W.heap[D]?=some (zi cs.toArray 78)
 ch:zr 0 0 W0 W
 lt:D+1<W0.heap.size
 low:W0.heap.size≤B∧W0.heap.size≤g
 row:qR W g 174 (jo (ts.take k++List.replicate (ts.length-k) (0,false)))
 blk:W.heap[B]?=some (zi (List.toArray [zb 106,zb 108,zb 111,zb 103,za 2,za (ts.length:Int),za q,zg g ts.length ts.length]) 235)
theorem StD.done {wy:World}(h:StD W0 D W cs ts q (some g) (some B))(k:wy.heap[B]?=some (zi (List.toArray [zb 106,zb 108,zb 111,zb 103,za 2,za (ts.length:Int),za q,zg g ts.length ts.length]) 235))(a:zr B (B+1) W wy):DrD W0 D B g wy cs ts q 0:=by
 obtain⟨d,l⟩:=h.blk B rfl;obtain⟨f,c⟩:=h.row g rfl;have j:g≠B:=by
  have b:=c;intro e;rw[e] at b;exact qf b l zp rfl
 have i:=h.lt;refine⟨⟨(a.bk _ (zE h.sp.1)).trans h.sp.1,(a.bk _ (zE h.sp.2)).trans h.sp.2⟩,h.ch.step a,h.lt,⟨d,f⟩,?_,k⟩;rw[oI,nG,Nat.sub_zero];exact c.chg a zk
theorem DrD.chg (h:DrD W0 D B g W cs ts q k)(c:zr 0 0 W W'):DrD W0 D B g W' cs ts q k:=
 ⟨⟨(c.bk _ (zE h.sp.1)).trans h.sp.1,(c.bk _ (zE h.sp.2)).trans h.sp.2⟩,h.ch.trans c,h.lt,h.low,h.row.chg c zk,(c.bk _ (zE h.blk)).trans h.blk⟩
theorem DrD.put (h:DrD W0 D B g W cs ts q k)(f:k<ts.length)(a:W'.heap[g]?=some (zi (splice (jo (ts.take k++List.replicate (ts.length-k) (0,false))) (k*2) [za (ts.getD k (0,false)).1,.bool (ts.getD k (0,false)).2]).toArray 174))(c:zr g (g+1) W W'):DrD W0 D B g W' cs ts q (k+1):=by
 have n:g≠B:=by
  have d:=h.row;intro e;rw[e] at d;exact qf d h.blk zp rfl
 have l:=h.low;have m:=h.lt;refine⟨⟨(c.bk _ (zE h.sp.1)).trans h.sp.1,(c.bk _ (zE h.sp.2)).trans h.sp.2⟩,h.ch.step c,h.lt,h.low,?_,(c.bk _ (zE h.blk)).trans h.blk⟩;have i:(ts.take k).length=k:=by rw[mW];omega
 have j:ts.length-k=(ts.length-(k+1))+1:=zk;have o:ts.getD k (0,false)=ts[k]:=by simp[f]
 have e:splice (jo (ts.take k++List.replicate (ts.length-k) (0,false))) (k*2) [za (ts.getD k (0,false)).1,.bool (ts.getD k (0,false)).2]=jo (ts.take (k+1)++List.replicate (ts.length-(k+1)) (0,false)):=by
  have b:(jo (ts.take k++List.replicate (ts.length-k) (0,false))).length=ts.length*2:=by rw[Qu,mL,i,nC];congr 1;omega
  rw[oy f,o];have:=aJ (ts.take k) (ts.length-(k+1)) k i ts[k].1 ts[k].2;rw[←j] at this;rw[show ts[k]=(ts[k].1,ts[k].2) from rfl,←this];rw[←QW _ _ _ _ (by rw[b];omega),←QW _ _ _ _ (by rw[ou,b];omega)];unfold splice;simp
 rw[e] at a;exact a
theorem DrD.done (h:DrD W0 D B g W cs ts q ts.length):qR W g 174 (jo ts):=by
 have:=h.row;rw[nV,pf,rK,nw] at this;exact this
theorem gg (h:qR W g 174 (jo ts)): ∀i,i<ts.length→W.cell? ⟨g,0+i*2,none⟩=some (za (ts.getD i (0,false)).1)∧W.cell? ⟨g,0+i*2+1,none⟩=some (.bool (ts.getD i (0,false)).2):=fun i hi=>by
 obtain⟨a,b⟩:=YM ts i hi
 rw[ni]
 exact⟨h.cell _ a,h.cell _ b⟩
theorem YG (w:World)(ts:List (Int×Bool))(q:Int)(h1:zC w lo hi .u8 a xs)(hB:Byt xs)(hG:Za w tL tM tK vL vM vK)(L:xs.length=64)(hm:xs.take 4=mg)(j:xs.getD 4 0=2)(hh:hd7 xs= #[zb 106,zb 108,zb 111,zb 103,za 2,za (ts.length:Int),za q])(J: ∀i,i<ts.length→qI ((xs.drop (12+i*3)).take 2)=(ts.getD i (0,false)).1∧xs.getD (12+i*3+2) 0=if(ts.getD i (0,false)).2 then 1 else 0)
  (he:xs=qk (zD 2 (ts.length:Int) q++zP ts)) (hq:1≤q∧q≤4294967295) (hr:Vq (ts.map Prod.fst)) (hl:1≤ts.length∧ts.length≤17) (ay:(zx (ts.length:Int) 2).length=2) (aB:(zx q 4).length=4):
  Calls Tryz.prog 175 #[a] w fun e w'=> ∃g,e= .returned (.tuple #[.agg #[zb 106,zb 108,zb 111,zb 103,za 2,za (ts.length:Int),za q,zg g ts.length ts.length],.nilIface])∧w.heap.size≤g∧qR w' g 174 (jo ts)∧zr 0 0 w w':=by
 have CA:zr 0 0 w (w.alloc E3):=zr.al w;have Q:=zt w E3;have hN:=QV (w.alloc E3) 2 (h1.chg CA zk) hB (hG.chg CA zk) L hm j;obtain⟨ao,cap,rfl,_⟩:=h1;obtain⟨cs,u⟩: ∃cs,cs=xs.map (Value.int .u8):=⟨_,rfl⟩;have L1:cs.length=64:=by rw[u];simpa using L
 have L2: ∀v∈cs,v.oneCell'=true:=by rw[u];exact nf _ _
 have K:(Tryz.prog.info? 78).map (·.size)=some cs.length:=by rw[L1];kernel_rfl
 have ar:Hid _:=L1;have au:Hid _:=L2;rw[←u] at hN;rw[hh] at hN;have hO:=fun W=>Qg W 106 108 111 103 2 ts.length q 1 17;have m:Hid _:=J;have U:Hid _:=hr;have HE:Hid _:=he;have Y:Hid _:=L;have M:Hid (Byt xs):=hB;have C:Hid _:=u;clear J hr he L hB hm j hh u hG L1 L2;go_enter Tryz.func175,Tryz.ntmps175;go_wp2_with fail;generalize w.alloc E3=wa at*;refine hN.mono ?_;rintro e w2 ⟨rfl,c2⟩;have s2:=c2.size
 have aC:=(zE Q);have HZ:Hid _:=(c2.bk _ aC).trans Q;have HA:Hid _:=CA.trans c2;clear hN c2 CA Q;obtain⟨y1,y2,y3⟩:=zU w2 (zi Z64.toArray 78) (zi z7.toArray 146);have ac:zr 0 0 w2 ((w2.alloc (zi Z64.toArray 78)).alloc (zi z7.toArray 146)):=(zr.al w2).alloc _;have Z:Hid _:=y2;have N:Hid _:=y3;have S:Hid _:=ac;clear y1 y2 y3 ac;go_upto_region 2 with(first
  |(refine wpList_store_row rfl 78 (.tmp 4) (.tmp 14) rfl rfl w2.heap.size rfl cs Z64 78 rfl (by simp only[qd];exact Z) (by rw[zN];exact ar) K au ?_;intro w3 O f)
  |(refine wpList_store_row rfl 146 (.tmp 5) (.tmp 15) rfl rfl (w2.heap.size+1) rfl [zb 106,zb 108,zb 111,zb 103,za 2,za (ts.length:Int),za q] z7 146 rfl (by simp only[qd] at f;exact(f.bk (w2.heap.size+1) (zE N)).trans N) rfl zl (by simp[Value.oneCell']) ?_;intro aE F G))
 have s3:=f.size;have aI:=G.size;have aH:=(zE F);have C4:zr 0 0 w2 aE:=by
  simp only[qd] at f;exact(S.step f).step G
 have n:Hid (_∧_):=⟨F,(G.bk _ (zE O)).trans O⟩;have T:Hid _:=zy F;have H:Hid _:=HA.trans C4;have aa:Hid _:=C4.bt HZ;clear O F f G C4 S Z N;go_upto_region 7 with(first
  |(refine nM rfl 146 (.tmp 5) rfl (w2.heap.size+1) 0 rfl [zb 106,zb 108,zb 111,zb 103,za 2,za (ts.length:Int),za q] _ T Tryz.underlying146 rfl zl ?_)
  |(go_at_call 187;refine(hO _).mono ?_;rintro e w4 ⟨rfl,R⟩))
 have s4:=R.size;have HH:Hid (_∧_):=⟨(R.bk _ (zE n.1)).trans n.1,(R.bk _ (zE n.2)).trans n.2⟩;have am:Hid _:=H.trans R;have aw:Hid _:=R.bt aa;have aD:w2.heap.size+1<w4.heap.size:=zk;clear R n H aa T hO;go_cut [8] (fun s8 wx=> ∃B8 g,s8=zh B8∧DrD w4 w2.heap.size B8 g wx cs ts q 0)
 case first=>
  have b:StD w4 w2.heap.size w4.drew cs ts q none none:=⟨HH,zr.drew (zr.refl 0 0 w4),aD,hl.2,fun _ e=>(by cases e),fun _ e=>(by cases e)⟩;refine hRg (fun w':World=>w'.heap[w2.heap.size+1]?=some (zi (List.toArray [zb 106,zb 108,zb 111,zb 103,za 2,za (ts.length:Int),za q]) 146)∧w'.heap[w2.heap.size]?=some (zi cs.toArray 78)) ?_;generalize w4.drew=w5 at*;refine zI 0 (.agg (List.toArray [zb 106,zb 108,zb 111,zb 103,za 2,za (ts.length:Int),za q])) rfl zl zl zl (fun _ _ _ h=>h) (nl zl 146 (.tmp 5) rfl (w2.heap.size+1) 0 rfl [zb 106,zb 108,zb 111,zb 103,za 2,za (ts.length:Int),za q] _ (fun w' c=>zy c.1) Tryz.underlying146 rfl zl) b.sp ?_
  go_simp;refine zI 1 (.agg (List.toArray [zb 106,zb 108,zb 111,zb 103,za 2,za (ts.length:Int),za q])) rfl zl zl zl (fun _ _ _ h=>h) (nl zl 146 (.tmp 5) rfl (w2.heap.size+1) 0 rfl [zb 106,zb 108,zb 111,zb 103,za 2,za (ts.length:Int),za q] _ (fun w' c=>zy c.1) Tryz.underlying146 rfl zl) b.sp ?_;go_simp;refine qY 2 5 rfl rfl rfl rfl zl ?_ ?_
  ·refine zv 127 #[.agg (List.toArray [zb 106,zb 108,zb 111,zb 103,za 2,za (ts.length:Int),za q])] zq (ZL w5 106 108 111 103 2 ts.length q) ?_;rintro e v1 ⟨rfl,j⟩;replace b:=b.chg j;clear j;refine⟨_,rfl,b.sp,?_⟩;go_simp;refine qY 3 5 rfl rfl rfl rfl zl ?_ ?_
   ·have y:=Kg ts.length zk;go_simp;clear y;replace b:=b.make;refine⟨b.sp,?_⟩;generalize v1.alloc (fR ts.length)=v2 at*;refine hTk 4 (.agg (List.toArray [zb 106,zb 108,zb 111,zb 103,za 2,za (ts.length:Int),za q,zg v1.heap.size ts.length ts.length])) rfl (fun w' c=>zm) b.sp ?_;go_simp;refine hOn 5 rfl ?_;go_simp;replace b:=b.alloc;refine⟨b.sp,?_⟩;generalize v2.alloc E3=v3 at*;refine hOn 6 rfl ?_;refine wsR [zb 106,zb 108,zb 111,zb 103,za 2,za (ts.length:Int),za q,zg v1.heap.size ts.length ts.length] (b.blk _ rfl).2 ?_
    intro wy l r;have I:Hid _:=b.done l r;have o:Hid _:=I.sp;clear l r b;refine⟨o,hDn ?_⟩;go_wp2;go_meet;exact⟨_,_,rfl,I⟩
   ·go_simp;replace b:=b.alloc;refine⟨b.sp,?_⟩;generalize v1.alloc E3=v4 at*;refine hOn 3 rfl ?_;have y:=Kg ts.length zk;go_simp;clear y;replace b:=b.make;refine⟨b.sp,?_⟩;generalize v4.alloc (fR ts.length)=v5 at*;refine hTk 4 (.agg (List.toArray [zb 106,zb 108,zb 111,zb 103,za 2,za (ts.length:Int),za q,zg v4.heap.size ts.length ts.length])) rfl (fun w' c=>zm) b.sp ?_;go_simp;refine hOn 6 rfl ?_;refine wsR [zb 106,zb 108,zb 111,zb 103,za 2,za (ts.length:Int),za q,zg v4.heap.size ts.length ts.length] (b.blk _ rfl).2 ?_
    intro wy l r;have I:Hid _:=b.done l r;have o:Hid _:=I.sp;clear l r b;refine⟨o,hDn ?_⟩;go_wp2;go_meet;exact⟨_,_,rfl,I⟩
  ·go_simp;replace b:=b.alloc;refine⟨b.sp,?_⟩;generalize w5.alloc E3=v6 at*;refine hOn 2 rfl ?_;refine zv 127 #[.agg (List.toArray [zb 106,zb 108,zb 111,zb 103,za 2,za (ts.length:Int),za q])] zq (ZL v6 106 108 111 103 2 ts.length q) ?_;rintro e v7 ⟨rfl,j⟩;replace b:=b.chg j;clear j;refine⟨_,rfl,b.sp,?_⟩;go_simp;refine hOn 3 rfl ?_;have y:=Kg ts.length zk;go_simp;clear y;replace b:=b.make;refine⟨b.sp,?_⟩
   generalize v7.alloc (fR ts.length)=v8 at*;refine hTk 4 (.agg (List.toArray [zb 106,zb 108,zb 111,zb 103,za 2,za (ts.length:Int),za q,zg v7.heap.size ts.length ts.length])) rfl (fun w' c=>zm) b.sp ?_;go_simp;refine hOn 6 rfl ?_;refine wsR [zb 106,zb 108,zb 111,zb 103,za 2,za (ts.length:Int),za q,zg v7.heap.size ts.length ts.length] (b.blk _ rfl).2 ?_;intro wy l r;have I:Hid _:=b.done l r;have o:Hid _:=I.sp
   clear l r b;refine⟨o,hDn ?_⟩;go_wp2;go_meet;exact⟨_,_,rfl,I⟩
 case rest=>
  obtain⟨B8,g,rfl,d⟩:=hcut;generalize wc=w9 at*;have ag: ∀(W:World) (k:Nat),k<ts.length→W.heap[w2.heap.size]?=some (zi cs.toArray 78)→Calls Tryz.prog 150 #[zj (some ⟨w2.heap.size,12+3*k,none⟩) 2 (64-(12+3*k))] W fun e w'=>e= .returned (za (ts.getD k (0,false)).1)∧zr 0 0 W w':=fun W k j hW=>by
   have ah:((xs.drop (12+3*k)).take 2).length=2:=by rw[mW,m8,Y.out];omega
   have hv:zC W w2.heap.size (w2.heap.size+1) .u8 (zj (some ⟨w2.heap.size,12+3*k,none⟩) 2 (64-(12+3*k))) ((xs.drop (12+3*k)).take 2):=by
    refine⟨_,_,by rw[ah],zk,⟨zk,zn⟩,Or.inr ⟨w2.heap.size,12+3*k,rfl,mP _,m5 _,fun i hi=>?_⟩⟩;rw[ah] at hi;simp only[World.cell?,hW];rw[C.out];have L:=Y.out;simp[hi,L,show 12+3*k+i<64 by omega]
   have:=Zd W ((M.drop (12+3*k)).take 2) hv;have e3:=(m k j).1;rw[show 12+k*3=12+3*k by omega] at e3;rw[e3] at this;exact this.mono fun e w' h=>⟨h.1,h.2.chg 0 0⟩
  have ap:Hid (∀(W:World) (k:Nat),k<ts.length→W.heap[w2.heap.size]?=some (zi cs.toArray 78)→W.cell? ⟨w2.heap.size,12+3*k+2,none⟩=some (zb (if(ts.getD k (0,false)).2 then 1 else 0))):=fun W k j hW=>by
   have e3:=(m k j).2;rw[show 12+k*3=12+3*k by omega] at e3;rw[←e3];simp only[World.cell?,hW];rw[C.out];have L:=Y.out;simp[L,show 12+3*k+2<64 by omega]
  have ak:Hid (∀W,DrD w4 w2.heap.size B8 g W cs ts q ts.length→Calls Tryz.prog 151 #[.iface 235 (.agg (List.toArray [zb 106,zb 108,zb 111,zb 103,za 2,za (ts.length:Int),za q,zg g ts.length ts.length])),.agg cs.toArray] W fun e w'=>e= .returned .nilIface∧zr 0 0 W w'):=fun W h=>by
   have:=NO (cap:=ts.length) W q (gg h.done) U hl hq ay aB xs HE Y M;rw[←C.out] at this;exact this
  have aq:Hid _:=ag;clear ag m HE Y M C U;obtain⟨k0,k1,k2,k3,k4,k5,k6,k7⟩:=eight d.blk;go_wp2_with fail;clear k0 k1 k2 k3 k4 k5 k6 k7;go_loopw [35,9,10] (fun x _ _ wr=> ∃k:Nat,k≤ts.length∧x=za k∧DrD w4 w2.heap.size B8 g wr cs ts q k) (fun x _ _ _=>ts.length-(RowKit.intOf x).toNat)
  case atStart=>exact⟨0,mX _,rfl,d⟩
  case round=>
   clear d;obtain⟨k,j,rfl,d⟩:=hrel;by_cases P:k<ts.length
   ·have az:(k:Int)<(ts.length:Int):=zk;have q1:(0:Int)≤12+(k:Int)*3:=zk;have q2:12+(k:Int)*3≤64:=zk;have q3:(12+(k:Int)*3).toNat=12+3*k:=zk;have q5: ¬(64:Nat)=12+3*k:=zk;have q4:IntKind.i64.wrap ((k:Int)*3)=(k:Int)*3:=by rw[mS];omega
    have q6:IntKind.i64.wrap (12+(k:Int)*3)=12+(k:Int)*3:=by rw[mS];omega
    go_upto_region 12 with fail;have HS:Hid ((fun w':World=>w'.heap[B8]?=some (zi (List.toArray [zb 106,zb 108,zb 111,zb 103,za 2,za (ts.length:Int),za q,zg g ts.length ts.length]) 235)∧w'.heap[w2.heap.size]?=some (zi cs.toArray 78)) wr.drew):=⟨d.blk,d.sp.2⟩;have s:=d.chg (zr.drew (zr.refl 0 0 wr));obtain⟨z,Hz⟩: ∃z,Hid (z=(ts.getD k (0,false)).1):=⟨_,rfl⟩;obtain⟨A,He⟩: ∃A,Hid (A=(ts.getD k (0,false)).2):=⟨_,rfl⟩
    have af:=aq.out wr.drew k P d.sp.2;have ae:=fun W=>ap.out W k P;rw[←He.out] at ae;rw[←Hz.out] at af;have e4:(2:Int)<((64-(12+3*k):Nat):Int):=zk;have e5:(2:Int)≤((64-(12+3*k):Nat):Int):=zk;have e6:((if A then 1 else 0:Int)==1)=A:=by cases A<;>rfl
    have e7: ¬(64-(12+3*k)=0):=zk;have e8:(2:Nat)≤64-(12+3*k):=zk;refine hRg (fun w':World=>w'.heap[B8]?=some (zi (List.toArray [zb 106,zb 108,zb 111,zb 103,za 2,za (ts.length:Int),za q,zg g ts.length ts.length]) 235)∧w'.heap[w2.heap.size]?=some (zi cs.toArray 78)) ?_;clear d;generalize wr.drew=wd at*;refine hT2 0 (.pointer (some ⟨B8,7,none⟩)) rfl ?_;go_simp;refine hTk 1 (zg g ts.length ts.length) rfl (fun w' c=>by obtain⟨k0,k1,k2,k3,k4,k5,k6,k7⟩:=eight c.1;go_simp) HS.out ?_
    go_simp;refine hT2 2 (za k) rfl ?_;go_simp;refine hT2 3 (zj (some ⟨w2.heap.size,12+3*k,none⟩) (64-(12+3*k)) (64-(12+3*k))) rfl ?_;go_simp;refine hT2 4 (zj (some ⟨w2.heap.size,12+3*k,none⟩) 2 (64-(12+3*k))) rfl ?_;go_simp;refine hT2 6 (zj (some ⟨w2.heap.size,12+3*k,none⟩) (64-(12+3*k)) (64-(12+3*k))) rfl ?_;go_simp;refine hT2 7 (.pointer (some ⟨w2.heap.size,12+3*k+2,none⟩)) rfl ?_;go_simp;refine hTk 8 (zb (if A then 1 else 0)) rfl (fun w' c=>by have:=ae w' c.2;go_simp) HS.out ?_
    go_simp;refine hTk 9 (.bool A) rfl (fun w' c=>by cases A<;>go_simp) HS.out ?_;go_simp;refine hOn 5 rfl ?_;refine zv 150 #[zj (some ⟨w2.heap.size,12+3*k,none⟩) 2 (64-(12+3*k))] zq af ?_;rintro e wn ⟨rfl,cn⟩;have hDn:=s.chg cn;have B:Hid (_∧_):=⟨hDn.blk,hDn.sp.2⟩;refine⟨_,rfl,B,?_⟩;clear cn s HS;go_simp;refine hTk 10 (.agg (List.toArray [za z,.bool A])) rfl (fun w' c=>zm) B.out ?_;go_simp;refine hTk 11 (.pointer (some ⟨g,k*2,none⟩)) rfl (fun w' c=>zm) B.out ?_
    go_simp;refine hOn 12 rfl ?_;refine aV 174 (.tmp 53) (.tmp 52) rfl rfl g (k*2) rfl [za z,.bool A] (jo (ts.take k++List.replicate (ts.length-k) (0,false))) 174 rfl hDn.row (by rw[Qu,mL,mW,nC];simp;omega) zl (by simp[Value.oneCell']) ?_;intro wy l r;rw[Hz.out,He.out] at l;have E:=hDn.put P l r;have HDp:Hid _:=E;have av:Hid (_∧_):=⟨E.blk,E.sp.2⟩;clear hDn E B l r;refine⟨av,hDn ?_⟩;go_wp2;go_roundw
    case rel=>exact⟨k+1,zk,by go_num,HDp.out⟩
    case measure=>simp[RowKit.intOf];omega
   ·obtain rfl:k=ts.length:=zk;have az: ¬((ts.length:Int)<(ts.length:Int)):=zk;have s9:=d.ch.size;have aG:=d.lt;have HS:Hid ((fun w':World=>w'.heap[B8]?=some (zi (List.toArray [zb 106,zb 108,zb 111,zb 103,za 2,za (ts.length:Int),za q,zg g ts.length ts.length]) 235)∧w'.heap[w2.heap.size]?=some (zi cs.toArray 78)) wr.drew):=⟨d.blk,d.sp.2⟩;have s:=d.chg (zr.drew (zr.refl 0 0 wr));have ab:wr.drew.heap[w.heap.size]?=some (zi (List.toArray [zb 0,zb 0,zb 0,zb 0,za 0,za 0,za 0,zc]) 235):=d.ch.bt aw
    have aj:Hid _:=(am.trans d.ch).drew;clear d;go_upto_region 14 with fail;refine hRg (fun w':World=>w'.heap[B8]?=some (zi (List.toArray [zb 106,zb 108,zb 111,zb 103,za 2,za (ts.length:Int),za q,zg g ts.length ts.length]) 235)∧w'.heap[w2.heap.size]?=some (zi cs.toArray 78)) ?_;generalize wr.drew=wd at*;refine zI 0 (.agg (List.toArray [zb 106,zb 108,zb 111,zb 103,za 2,za (ts.length:Int),za q,zg g ts.length ts.length])) rfl zl zl zl (fun _ _ _ h=>h) (nl zl 235 (.tmp 8) rfl B8 0 rfl [zb 106,zb 108,zb 111,zb 103,za 2,za (ts.length:Int),za q,zg g ts.length ts.length] _ (fun w' c=>zy c.1) Tryz.underlying235 rfl zl) HS ?_
    go_simp;refine zI 1 (.agg (List.toArray [zb 106,zb 108,zb 111,zb 103,za 2,za (ts.length:Int),za q,zg g ts.length ts.length])) rfl zl zl zl (fun _ _ _ h=>h) (nl zl 235 (.tmp 8) rfl B8 0 rfl [zb 106,zb 108,zb 111,zb 103,za 2,za (ts.length:Int),za q,zg g ts.length ts.length] _ (fun w' c=>zy c.1) Tryz.underlying235 rfl zl) HS ?_;go_simp;refine hT2 2 (.iface 235 (.agg (List.toArray [zb 106,zb 108,zb 111,zb 103,za 2,za (ts.length:Int),za q,zg g ts.length ts.length]))) rfl ?_
    go_simp;refine zI 3 (.agg cs.toArray) rfl zl zl zl (fun _ _ _ h=>h) (nl zl 78 (.tmp 4) rfl w2.heap.size 0 rfl cs _ (fun w' c=>zy c.2) Tryz.underlying78 rfl K) HS ?_;go_simp;refine hOn 4 rfl ?_;refine zv 151 #[.iface 235 (.agg (List.toArray [zb 106,zb 108,zb 111,zb 103,za 2,za (ts.length:Int),za q,zg g ts.length ts.length])),.agg cs.toArray] zq (ak.out wd s) ?_;rintro e we ⟨rfl,ce⟩;have se:=ce.size
    have D:=s.chg ce;have p:Hid (_∧_):=⟨D.blk,D.sp.2⟩;have ai:=(ce.bk _ (zE ab)).trans ab;refine⟨_,rfl,p,?_⟩;go_simp;refine hOn 5 rfl ?_;refine wsR [zb 106,zb 108,zb 111,zb 103,za 2,za (ts.length:Int),za q,zg g ts.length ts.length] ai ?_;intro wf ad t;have aF:=D.low;have X:Hid (_∧_):=⟨(t.bk _ (zE p.1)).trans p.1,(t.bk _ (zE p.2)).trans p.2⟩;have ax:Hid _:=ad;have an:Hid (zr 0 0 w wf):=(aj.trans ce).step t
    have V:Hid (w.heap.size≤g∧qR wf g 174 (jo ts)):=⟨zk,D.done.chg t zk⟩;refine⟨X,?_⟩;clear ad t ce ai;go_simp;refine hOn 6 rfl ?_;refine jb (v:= .nilIface) (w':=wf) zq ⟨X.out,?_⟩;go_simp;refine hDn ?_;go_wp2;have aA:(loadVar 235 (zd w.heap.size)).run Tryz.prog wf= .ok (.agg (List.toArray [zb 106,zb 108,zb 111,zb 103,za 2,za (ts.length:Int),za q,zg g ts.length ts.length])) wf:=nd _ _ _ _ [zb 106,zb 108,zb 111,zb 103,za 2,za (ts.length:Int),za q,zg g ts.length ts.length] _ (zy ax) Tryz.underlying235 rfl zl
    exact mT (v:= .tuple #[.agg (List.toArray [zb 106,zb 108,zb 111,zb 103,za 2,za (ts.length:Int),za q,zg g ts.length ts.length]),.nilIface]) (Zo Tryz.results175 rfl rfl aA) rfl ⟨g,rfl,V.1,V.2,an⟩
theorem iN {v:Int}(h0:0≤v:=by omega)(h1:v<65536:=by omega):(zx v 2).length=2:=by
 unfold zx;rw[mN zk,mN (by rw[show(256:Int)^ (2:Int).toNat=65536 from rfl];omega),qX];rfl
theorem EA {v:Int}(h0:0≤v:=by omega)(h1:v≤4294967295:=by omega):(zx v 4).length=4:=by
 unfold zx;rw[mN zk,mN (by rw[show(256:Int)^ (4:Int).toNat=4294967296 from rfl];omega),qX];rfl
abbrev gw (q c s:Int):Prop:=(1≤q∧q≤4294967295)∧(1≤c∧c<512)∧0≤s∧s≤4294967295
def jF (q c s:Int):List Int:=if gw q c s then qk (zD 4 c q++zx s 4) else []
theorem Ut {s:Nat}{b c:Value}{t:TypeId}(h:w.heap[s]?=some (zi #[a,b,c] t)):
  w.cell? (zd s)=some a∧w.cell? ⟨s,1,none⟩=some b∧w.cell? ⟨s,2,none⟩=some c:=by
 simp[World.cell?,h]
theorem Jp (w:World)(q c s:Int):
  Calls Tryz.prog 49 #[.agg #[za q,za c,za s]] w fun e w'=> ∃v,e= .returned v∧zu w' w.heap.size 5 v (jF q c s)∧zr 0 0 w w':=by
 have C0:zr 0 0 w (w.alloc (zi #[za q,za c,za s] 91)):=zr.al w;have B0:=zt w (zi #[za q,za c,za s] 91);have s0:(w.alloc (zi #[za q,za c,za s] 91)).heap.size=w.heap.size+1:=zn;have HE:Hid (∀C:World,w.heap.size≤C.heap.size→zu (C.alloc (zi #[] 5)) w.heap.size 5 (zg C.heap.size 0 0) []):=by
  intro C h;have:=nK (base:=w.heap.size) (e:=5) (size:=1) C #[] 0 h (by unfold maxLen;omega) rfl;simpa [zu] using this
 have i:=jC (w.alloc (zi #[za q,za c,za s] 91)) q;have HB:Hid _:=B0;have HC:Hid _:=C0;clear C0 B0;go_enter Tryz.func49,Tryz.ntmps49;go_wp2_with fail;generalize w.alloc (zi #[za q,za c,za s] 91)=C at*;refine i.mono ?_;rintro e w2 ⟨rfl,rfl⟩;have ad:w.heap.size<w2.heap.size:=zk;clear i s0;obtain⟨k0,k1,k2⟩:=Ut HB;have z:Hid _:=HE.out w2 zk;have j:Hid (zr 0 0 w (w2.alloc (zi #[] 5))):=HC.alloc _;by_cases H:1≤q∧q≤4294967295
 case neg=>
  have p:qA q=false:=by unfold qA;rw[←Bool.decide_and,mY H]
  have d:jF q c s= []:=by unfold jF;rw[mN (fun h=>H h.1)]
  have n:Hid _:=d;rw[p];clear d;clear H;go_wp2;go_ret;exact⟨_,rfl,by rw[n.out];exact z,j⟩
 have p:qA q=true:=by unfold qA;rw[←Bool.decide_and,mR H]
 rw[p];by_cases aa:c<1
 ·have d:jF q c s= []:=by unfold jF;rw[mN (fun h=>by have:=h.2.1.1;omega)]
  have n:Hid _:=d;clear d;go_wp2;go_ret;exact⟨_,rfl,by rw[n.out];exact z,j⟩
 by_cases ab:512≤c
 ·have d:jF q c s= []:=by unfold jF;rw[mN (fun h=>by have:=h.2.1.2;omega)]
  have n:Hid _:=d;clear d;go_wp2;go_ret;exact⟨_,rfl,by rw[n.out];exact z,j⟩
 by_cases af:s<0
 ·have d:jF q c s= []:=by unfold jF;rw[mN (fun h=>by have:=h.2.2.1;omega)]
  have n:Hid _:=d;clear d;go_wp2;go_ret;exact⟨_,rfl,by rw[n.out];exact z,j⟩
 by_cases ag:4294967295<s
 ·have d:jF q c s= []:=by unfold jF;rw[mN (fun h=>by have:=h.2.2.2;omega)]
  have n:Hid _:=d;clear d;go_wp2;go_ret;exact⟨_,rfl,by rw[n.out];exact z,j⟩
 have d:jF q c s=qk (zD 4 c q++zx s 4):=by unfold jF;rw[mM ⟨H,⟨zk,zk⟩,zk,zk⟩]
 have n:Hid _:=d;have x:Hid ((zx c 2).length=2):=iN;have y:Hid ((zx q 4).length=4):=EA;have o:Hid ((zx s 4).length=4):=EA;clear z j d HE;go_upto_region 4 with fail;go_cut [2] (fun s2 wx=>zu wx w.heap.size 5 s2 (qk (zD 4 c q++zx s 4))∧zr 0 0 w2 wx)
 case first=>
  have HS0:Hid (w2.drew.cell? (zd w.heap.size)=some (za q)∧w2.drew.cell? ⟨w.heap.size,1,none⟩=some (za c)∧w2.drew.cell? ⟨w.heap.size,2,none⟩=some (za s)):=⟨k0,k1,k2⟩;have M:Hid _:=zr.drew (zr.refl 0 0 w2);have ae:q≤9223372036854775807:=zk;clear k0 k1 k2;refine hRg (fun w':World=>w'.cell? (zd w.heap.size)=some (za q)∧w'.cell? ⟨w.heap.size,1,none⟩=some (za c)∧w'.cell? ⟨w.heap.size,2,none⟩=some (za s)) ?_
  refine hTk 0 (.pointer (some ⟨w.heap.size,1,none⟩)) rfl (fun w' a=>by have l:=a.1;have k:=a.2.1;have m:=a.2.2;go_simp) HS0.out ?_;go_simp;refine hTk 1 (za c) rfl (fun w' a=>by have l:=a.1;have k:=a.2.1;have m:=a.2.2;go_simp) HS0.out ?_;go_simp;refine hTk 2 (zh w.heap.size) rfl (fun w' a=>by have l:=a.1;have k:=a.2.1;have m:=a.2.2;go_simp) HS0.out ?_;go_simp;refine hTk 3 (za q) rfl (fun w' a=>by have l:=a.1;have k:=a.2.1;have m:=a.2.2;go_simp) HS0.out ?_
  go_simp;refine hTk 5 (.pointer (some ⟨w.heap.size,2,none⟩)) rfl (fun w' a=>by have l:=a.1;have k:=a.2.1;have m:=a.2.2;go_simp) HS0.out ?_;go_simp;refine hTk 6 (za s) rfl (fun w' a=>by have l:=a.1;have k:=a.2.1;have m:=a.2.2;go_simp) HS0.out ?_;go_simp;have ac:w.heap.size<w2.drew.heap.size:=by show w.heap.size<w2.heap.size;omega
  generalize w2.drew=w3 at*;have i:=QB w3 4 c q zk zk zk x y;refine hOn 4 rfl ?_;refine zv 99 #[za 4,za c,za q] zq i ?_;rintro e B ⟨v4,rfl,Y,l⟩;obtain⟨W,X,V,rfl⟩:=zF Y;have r:Hid (B.cell? (zd w.heap.size)=some (za q)∧B.cell? ⟨w.heap.size,1,none⟩=some (za c)∧B.cell? ⟨w.heap.size,2,none⟩=some (za s)):=⟨l.cell HS0.1,l.cell HS0.2.1,l.cell HS0.2.2⟩;have s4:=l.size;have D:Hid (zu B w3.heap.size 5 (zj W X V) (zD 4 c q)):=Y
  have N:Hid _:=M.trans l;refine⟨_,rfl,r,?_⟩;clear i Y l;go_simp;have i:=zX B s 4;refine hOn 7 rfl ?_;refine zv 100 #[za s,za 4] zq i ?_;rintro e I ⟨v5,rfl,J,k⟩;have t:Hid (_∧_∧_):=⟨k.cell r.1,k.cell r.2.1,k.cell r.2.2⟩;have s5:=k.size;have T:Hid (zC I w3.heap.size B.heap.size .u8 (zj W X V) (zD 4 c q)):=(D.view (by have h1:=x.out;have h2:=y.out;simp[zD,mg,h1,h2]) (fun g p=>(D.lt g p).2)).chg k zk
  have F:Hid (zC I B.heap.size I.heap.size .u8 v5 (zx s 4)):=J.view (by rw[o.out];omega) (fun g p=>(J.lt g p).2);obtain⟨e5,l5,c5,rfl⟩:=zF J;have O:Hid _:=N.trans k;refine⟨_,rfl,t,?_⟩;clear i J k;go_simp;obtain⟨b5,f5,rfl⟩: ∃b f,e5=some ⟨b,f,none⟩:=by
   obtain⟨ao,cap,e,_,_,h⟩:=F.out;rcases h with h|⟨b,Z,hb,_⟩
   ·have:=o.out;rw[h] at this;simp at this
   ·simp only[ns] at e;exact⟨b,Z,by rw[e.1,hb]⟩
  have i:=j4 (xs:=zD 4 c q) (ys:=zx s 4) I (by have h1:=x.out;have h2:=y.out;simp[zD,mg,h1,h2]) (by rw[o.out];omega) T F (by rw[o.out];omega);refine hOn 8 rfl ?_;refine zv 48 #[zj W X V,zj (some ⟨b5,f5,none⟩) l5 c5] zq i ?_;rintro e w6 ⟨v6,rfl,K,m⟩;have u:Hid (_∧_∧_):=⟨m.cell t.1,m.cell t.2.1,m.cell t.2.2⟩;have s6:=m.size;have A:Hid ((zD 4 c q++zx s 4).length=16):=by
   show _=_;have h1:=x.out;have h2:=y.out;have h3:=o.out;simp[zD,mg,h1,h2,h3]
  have U:Hid (zC w6 I.heap.size w6.heap.size .u8 v6 (zD 4 c q++zx s 4)):=K.view (by rw[A.out];omega) (fun g p=>(K.lt g p).2);obtain⟨e6,l6,c6,rfl⟩:=zF K;have P:Hid _:=O.trans m;refine⟨_,rfl,u,?_⟩;clear i K m;go_simp;have i:=N8 w6 (by rw[A.out];omega) U;refine hOn 9 rfl ?_;refine zv 98 #[zj e6 l6 c6] zq i ?_;rintro e w7 ⟨v7,rfl,L,G⟩;have E:Hid (_∧_∧_):=⟨G.cell u.1,G.cell u.2.1,G.cell u.2.2⟩;have S:Hid (zu w7 w.heap.size 5 v7 (qk (zD 4 c q++zx s 4))):=L.base (fun g p=>by have:=(L.lt g p).1;omega)
  obtain⟨e7,l7,c7,rfl⟩:=zF L;have Q:Hid _:=P.trans G;refine⟨_,rfl,E,?_⟩;clear i L G;go_simp;refine hOn 10 rfl ?_;go_simp;refine⟨E,?_⟩;refine hDn ?_;go_wp2;go_meet;exact⟨S,Q⟩
 case rest=>
  obtain⟨ho,hc⟩:=hcut;have z:Hid _:=ho;have R:Hid _:=HC.trans hc;clear ho hc;go_wp2;go_ret;exact⟨_,rfl,by rw[n.out];exact z,R⟩
theorem Nf (w:World)(x b:Nat)(d:x<4294967296)(f:b<2:=by omega):
  Calls Tryz.prog 136 #[za x,za b] w fun e w'=>e= .returned (za (stp x b:Nat))∧w'=w:=by
 by_cases h1:(x+b) % 2=1
 ·have a:Hid (((stp x b:Nat):Int)=bits .xor .i64 ((x:Int)/2) 2197175160):=by
   show _=_;rw[gr x d];unfold stp;rw[mM h1]
  have c:(((x:Int)+b) % 2==1)=true:=by rw[show((x:Int)+b) % 2=1 by omega];rfl
  rw[a.out];go_enter Tryz.func136,Tryz.ntmps136;go_wp2;go_ret;exact⟨rfl,rfl⟩
 ·have a:Hid (((stp x b:Nat):Int)=(x:Int)/2):=by
   show _=_;unfold stp;rw[mN h1];omega
  have c:(((x:Int)+b) % 2==1)=false:=by rw[show((x:Int)+b) % 2=0 by omega];rfl
  rw[a.out];go_enter Tryz.func136,Tryz.ntmps136;go_wp2;go_ret;exact⟨rfl,rfl⟩
theorem bJ (w:World)(x:Nat)(C:x<4294967296)(xs:List Int)(b a cap:Nat)(l:Byt xs)(E:xs.length≤9223372036854775807)
  (h1: ∀i,i<xs.length→w.cell? ⟨b,a+i,none⟩=some (zb (xs.getD i 0))):
  Calls Tryz.prog 97 #[za x,zj (some ⟨b,a,none⟩) xs.length cap] w fun e w'=>e= .returned (za (reg x (nb xs):Nat))∧w'=w:=by
 have n:Hid (Byt xs):=l;have p:Hid (∀i,i<xs.length→w.cell? ⟨b,a+i,none⟩=some (zb (xs.getD i 0))):=h1;clear l h1;go_enter Tryz.func97,Tryz.ntmps97;go_wp2;go_loop [0,5] (fun y i=> ∃k:Nat,k≤xs.length∧i=za k∧y=za (reg x (nb (xs.take k)):Nat)) (fun _ i=>xs.length-(intOf i).toNat)
 case atStart=>exact⟨0,mX _,rfl,rfl⟩
 case round=>
  obtain⟨k,D,rfl,rfl⟩:=hrel;by_cases c:k<xs.length
  ·have t:=p.out k c;have s:=n.getD k;have hi:(k:Int)<(xs.length:Int):=zk;have q:=Xg (nb (xs.take k)) x C;have h:Hid (reg x (nb (xs.take (k+1)))=jm 8 (reg x (nb (xs.take k))) (xs.getD k 0).toNat):=Q3 x xs k c;generalize reg x (nb (xs.take k))=y at*;obtain⟨d,f⟩: ∃d:Nat,xs.getD k 0=(d:Int):=⟨(xs.getD k 0).toNat,zk⟩;have o:Hid (xs.getD k 0=(d:Int)):=f;rw[f] at t s;clear f;go_wp2;go_loop [0,6,7] (fun z v j=> ∃m:Nat,m≤8∧j=za m∧v=za (d/2^m:Nat)∧z=za (jm m y d:Nat)) (fun _ _ j=>8-(intOf j).toNat)
   case atStart=>exact⟨0,mX _,rfl,zn,rfl⟩
   case round=>
    obtain⟨m,F,rfl,rfl,rfl⟩:=hrel;have r:=YH m y d q;by_cases B:m<8
    ·have HN:Hid (jm (m+1) y d=stp (jm m y d) (d/2^m % 2)):=fJ m y d;have HV:Hid (d/2^ (m+1)=d/2^m/2):=by show _=_;rw[rY,tp]
     have u:d/2^m≤d:=ss _ _;generalize jm m y d=z at*;generalize d/2^m=v at*;have A:(m:Int)<8:=zk;have g:Hid ((v:Int) % 2=((v % 2:Nat):Int)):=by show _=_;omega
     go_wp2_with fail;rw[g.out];refine(Nf _ z (v % 2) r).mono ?_;rintro e G ⟨rfl,rfl⟩;clear g;go_wp2;go_round
     case rel=>exact⟨m+1,zk,by go_num,by rw[HV.out];go_num,by rw[HN.out]⟩
     case measure=>simp[intOf];omega
    ·obtain rfl:m=8:=zk;have HE':Hid (reg x (nb (xs.take (k+1)))=jm 8 y d):=by show _=_;rw[h.out,o.out];rfl
     clear h;generalize jm 8 y d=z at*;go_wp2;go_round
     case rel=>exact⟨k+1,zk,by go_num,by rw[HE'.out]⟩
     case measure=>simp[intOf];omega
  ·obtain rfl:k=xs.length:=zk;rw[nV];go_wp2;go_ret;exact⟨rfl,rfl⟩
theorem bI (w:World)(x:Nat)(a:Option Addr)(cap:Nat):
  Calls Tryz.prog 97 #[za x,zj a 0 cap] w fun e w'=>e= .returned (za (x:Nat))∧w'=w:=by
 go_enter Tryz.func97,Tryz.ntmps97;go_wp2;refine wp_loop_rounds 1 ?_;rw[rounds_succ];go_wp2;go_ret;exact⟨rfl,rfl⟩
theorem N7 (w:World)(x:Nat)(h:x<4294967296)(d:Byt xs)(h1:zC w lo hi .u8 a xs):
  Calls Tryz.prog 97 #[za x,a] w fun e w'=>e= .returned (za (reg x (nb xs):Nat))∧w'=w:=by
 obtain⟨c,cap,rfl,f,_,h1⟩:=h1;rcases h1 with rfl|⟨g,b,rfl,_,_,h1⟩
 ·exact bI w x c cap
 ·exact bJ w x h xs g b cap d f h1
theorem Q8 (w:World)(f:Byt xs)(h1:zC w lo hi .u8 a xs):
  Calls Tryz.prog 47 #[a] w fun e w'=>e= .returned (za (Zy xs))∧w'=w:=by
 have g:=Xg (nb xs) 4294967295 zk;have d:Hid (Zy xs=4294967295-(reg 4294967295 (nb xs):Nat)):=rfl;rw[d.out];go_enter Tryz.func47,Tryz.ntmps47;go_wp2_with fail;refine(N7 _ 4294967295 zk f h1).mono ?_;rintro e h ⟨rfl,rfl⟩;generalize b:reg 4294967295 (nb xs)=r at*;have c:Hid (reg 4294967295 (nb xs)=r):=b;clear b;go_wp2;go_ret;exact⟨by rw[c.out];rfl,rfl⟩
abbrev rE:= @List.mem_flatMap
abbrev sM:= @Int.tdiv_eq_ediv_of_nonneg
theorem Byt.app {ys:List Int}(h:Byt xs)(k:Byt ys):Byt (xs++ys):=fun x a=>(nu.1 a).elim (h x) (k x)
theorem Ei (n:Nat):Byt (List.replicate n 0):=fun x a=>by rw[(sx.1 a).2];omega
theorem Xp (h:Byt xs):Byt (qk xs):=h.app (Ei _)
theorem Jc {k c:Int}(b:0≤k∧k<256:=by omega):Byt (zD k c q):=by
 unfold zD;refine Byt.app (Byt.app (Byt.app ?_ ?_) (qE _ _)) (qE _ _)
 ·intro x a;unfold mg at a;simp at a;omega
 ·intro x a;simp at a;omega
theorem Ef (xs:List Int):Byt (qm xs):=fun x a=>by
 unfold qm at a
 obtain⟨y,_,b⟩:=rE.1 a
 exact qE _ _ x b
theorem Eg (ts:List (Int×Bool)):Byt (zP ts):=fun x a=>by
 unfold zP at a
 obtain⟨y,_,b⟩:=rE.1 a
 unfold XF at b
 rcases nu.1 b with h|h
 ·exact qE _ _ x h
 ·rw[nx.1 h];split<;>omega
theorem dB (h:Byt xs):Byt (Zi xs):=by
 unfold Zi;split
 ·exact Byt.app (fun x a=>by simp at a;omega) (h.drop 4)
 ·exact h
theorem bd {hs:List Wr}(rs:List Int)(h: ∀x∈hs,Byt x.2): ∀b∈BL q hs rs,Byt b:=by
 intro b hb;unfold BL at hb;rcases nu.1 hb with hb|hb
 ·obtain⟨c,_,rfl⟩:=m9.1 hb;exact Xp ((Jc).app (Ef _))
 ·obtain⟨c,a,hb⟩:=rE.1 hb;unfold zW at hb;rcases oJ.1 hb with rfl|hb
  ·exact Xp ((Jc).app (Eg _))
  ·obtain⟨x,d,rfl⟩:=m9.1 hb;exact dB (h x (Jd a x d))
theorem Vw {bs:List (List Int)}(h: ∀b∈bs,Byt b):Byt bs.flatten:=fun x a=>by
 obtain⟨b,c,a⟩:=List.mem_flatten.1 a
 exact h b c x a
def Vz (q:Int) (bs:List (List Int)):List Int:=qk (zD 4 bs.length q++zx (Zy bs.flatten) 4)
def TL (t:Tx):List (List Int):=if ja t=true then BL t.seq t.homes t.rV++ [Vz t.seq (BL t.seq t.homes t.rV)] else []
theorem gR {bs:List (List Int)}(h0:1≤q)(h1:q≤4294967295)(c:bs.length<512:=by omega):(Vz q bs).length=64:=by
 unfold Vz qk;obtain⟨a,b⟩:=qP bs.flatten;have e:(zD 4 bs.length q++zx (Zy bs.flatten) 4).length=16:=by rw[mL,Ji (pn2) (pn4 zk h1),pn4 a b]
 rw[mL,nC,e]
theorem bl {hs:List Wr}(h:1≤hs.length+rs.length:=by omega):1≤(BL q hs rs).length:=by
 by_cases a:0<rs.length
 ·rw[bn q hs a,m7];omega
 ·obtain rfl:rs= []:=nT zk;rw[ES q (by simp only[nH] at h;omega)];unfold zW;simp
theorem qq (w:World){t:Tx}(hl:Qa t≤1048576)(ax:hi≤w.heap.size)(ab: ∀x∈t.homes,Byt x.2)(h1:jy w lo hi a t):
  Calls Tryz.prog 20 #[a] w fun e w'=>Told w w' e (TL t):=by
 have hT:=h1;obtain⟨hv,rv,rfl,p1,v1⟩:=h1;obtain⟨l,b,rfl⟩:=p1.slice;obtain⟨k,cap,rfl⟩:=v1.slice;have C0:zr 0 0 w (w.alloc (zi #[za t.seq,zj l t.homes.length b,zj k t.rV.length cap] 35)):=zr.al w;have B0:=zt w (zi #[za t.seq,zj l t.homes.length b,zj k t.rV.length cap] 35);have s0:(w.alloc (zi #[za t.seq,zj l t.homes.length b,zj k t.rV.length cap] 35)).heap.size=w.heap.size+1:=zn;obtain⟨⟨k0,k1,k2⟩,_⟩:=tri B0
 have i:=ZJ (w.alloc (zi #[za t.seq,zj l t.homes.length b,zj k t.rV.length cap] 35)) hl (hT.chg C0 zk);have HT:Hid (∀W,zr 0 0 w W→jy W lo hi (.agg #[za t.seq,zj l t.homes.length b,zj k t.rV.length cap]) t):=fun W B=>hT.chg B zk;have T:Hid _:=B0;have G:Hid _:=C0;clear B0 C0 hT p1 v1;by_cases c:qy t
 case neg=>
  rw[qg c] at i;have n:Hid (TL t= []):=by show _=_;unfold TL;rw[qg c];rfl
  go_enter Tryz.func20,Tryz.ntmps20;go_wp2_with fail;generalize w.alloc (zi #[za t.seq,zj l t.homes.length b,zj k t.rV.length cap] 35)=w1 at*;refine i.mono ?_;rintro e w2 ⟨rfl,h2⟩;have HO:Hid (zu (w2.alloc (zi #[] 5)) w.heap.size 5 (zg w2.heap.size 0 0) []):=zu.bnil w2 w.heap.size (by have:=h2.size;omega);have HC:Hid (zr 0 0 w (w2.alloc (zi #[] 5))):=(G.trans h2).alloc _;clear i h2 k0 k1 k2;go_wp2
  go_ret;exact⟨_,_,by rw[n.out];rfl,by rw[n.out];exact HO,HC⟩
 rw[qu c] at i;have n:Hid (TL t=BL t.seq t.homes t.rV++ [Vz t.seq (BL t.seq t.homes t.rV)]):=by show _=_;unfold TL;rw[mM (qu c)]
 have p:=OkT.of c ab;obtain⟨⟨_,ap,aq⟩,_⟩:=c;obtain⟨i1,i2⟩:=Ea 128 (q:=t.seq) (hs:=t.homes) (rs:=t.rV) zk p;have Y:=Vw (bd (q:=t.seq) t.rV ab);have hp:=bl (q:=t.seq) (hs:=t.homes) (rs:=t.rV);have A:Hid (∀W,zr 0 0 w W→Calls Tryz.prog 46 #[.agg #[za t.seq,zj l t.homes.length b,zj k t.rV.length cap]] W fun e w'=>Told W w' e (BL t.seq t.homes t.rV)):=fun W B=>Ng 128 W zk zk p (by have:=B.size;omega) (HT W B)
 have q0:=p.q0;have q1:=p.q1;have P:=Jh i1;have o:Hid ((Vz t.seq (BL t.seq t.homes t.rV)).length=64):=gR q0 q1;obtain⟨c0,c1⟩:=qP (BL t.seq t.homes t.rV).flatten;have X:Hid (jF t.seq ((BL t.seq t.homes t.rV).length:Int) (Zy (BL t.seq t.homes t.rV).flatten)=Vz t.seq (BL t.seq t.homes t.rV)):=by
  show _=_;unfold jF;rw[mM ⟨⟨q0,q1⟩,⟨zk,zk⟩,c0,c1⟩];rfl
 have af:Hid _:=Y;clear i1 p Y;generalize Vz t.seq (BL t.seq t.homes t.rV)=cb at*;generalize an:BL t.seq t.homes t.rV=bs at*;have aw:bs.length≤256:=zk;obtain⟨L,hL⟩: ∃L,L=64*bs.length:=⟨_,rfl⟩;obtain⟨nb,z⟩: ∃nb:Int,nb=(bs.length:Int):=⟨_,rfl⟩;have HL:Hid _:=hL;have au:Hid _:=z;have ar:(L:Int).tdiv 64=nb:=by rw[sM zk,hL,z];omega
 have ay:IntKind.i64.wrap nb=nb:=by rw[mS];omega
 have av:L≤16384:=zk;have j:Hid (∀W,zC W w.heap.size W.heap.size .u8 (zg 0 0 0) []→True):=fun _ _=>trivial;clear j;obtain⟨cr,y⟩: ∃cr,cr=Zy bs.flatten:=⟨_,rfl⟩;have am:Hid _:=y;rw[←z,←y] at X;rw[←y] at c0 c1;clear an hL z y i2 ap aq;go_enter Tryz.func20,Tryz.ntmps20;go_wp2_with fail;generalize w.alloc (zi #[za t.seq,zj l t.homes.length b,zj k t.rV.length cap] 35)=w1 at*;refine i.mono ?_;rintro e az ⟨rfl,u⟩
 have F:Hid _:=u.bt T;have H:Hid _:=G.trans u;have s1:=u.size;obtain⟨⟨k0,k1,k2⟩,_⟩:=tri F;clear i u T G;go_wp2_with fail;refine(A _ H).mono ?_;rintro e w2 ⟨g,O,rfl,o2,h2⟩;have ae:Hid _:=h2.bt F;have ag:Hid _:=H.trans h2;have s2:=h2.size;have U:Hid (zu w2 w.heap.size 5 (zg g L O) bs.flatten):=by
  show zu _ _ _ _ _;rw[HL.out];exact o2.base (fun g Q=>by have:=(o2.lt g Q).1;omega)
 have K:Hid (∀W,zr 0 0 w2 W→zC W w.heap.size w2.heap.size .u8 (zg g L O) bs.flatten):=fun W B=>(U.view (hi:=w2.heap.size) (by rw[P];omega) (fun g Q=>(U.lt g Q).2)).chg B zk;have j:Hid (∀W,zr 0 0 w2 W→Calls Tryz.prog 47 #[zg g L O] W fun e w'=>e= .returned (za cr)∧w'=W):=fun W B=>by
  rw[am.out];exact Q8 W af (K W B)
 rw[←HL.out];clear o2 h2 F H A k0 k1 k2;obtain⟨N,i⟩: ∃N,N=w2.heap.size:=⟨_,rfl⟩;have r:Hid (_∧_):=⟨zk,i⟩;clear i;go_upto_region 4 with fail;go_cut [4] (fun s wx=>s=zh N∧zr 0 0 w2 wx∧wx.heap[N]?=some (zi #[za t.seq,za nb,za cr] 91))
 case first=>
  have HS:Hid ((fun w':World=>w'.heap[w.heap.size]?=some (zi #[za t.seq,zj l t.homes.length b,zj k t.rV.length cap] 35)) w2.drew):=ae.out;refine hRg (fun w':World=>w'.heap[w.heap.size]?=some (zi #[za t.seq,zj l t.homes.length b,zj k t.rV.length cap] 35)) ?_;refine hT2 0 (zh w.heap.size) rfl ?_;go_simp;refine hTk 1 (za t.seq) rfl (fun w' ad=>by obtain⟨⟨q0,q1,q2⟩,_⟩:=tri ad;go_simp) HS.out ?_;go_simp
  refine hT2 2 (zg g L O) rfl ?_;go_simp;refine hT2 3 (za L) rfl ?_;go_simp;refine hT2 4 (za nb) rfl ?_;go_simp;refine hT2 5 (zg g L O) rfl ?_;go_simp;have Cd:=zr.drew (zr.refl 0 0 w2);have I:Hid _:=Cd;have d:Hid (w2.drew.heap.size=w2.heap.size):=rfl;rw[r.out.2.symm] at d;clear Cd;generalize w2.drew=C at*;refine qY 6 8 rfl rfl rfl rfl zl ?_ ?_
  ·refine zv 47 #[zg g L O] zq (j.out C I.out) ?_;rintro e D ⟨rfl,rfl⟩;refine⟨_,rfl,HS,?_⟩;go_simp;refine hT2 7 (.agg #[za t.seq,za nb,za cr]) rfl ?_;go_simp;have E:zr 0 0 D (D.alloc (zi #[za 0,za 0,za 0] 91)):=zr.al D;have f:Hid ((fun w':World=>w'.heap[w.heap.size]?=some (zi #[za t.seq,zj l t.homes.length b,zj k t.rV.length cap] 35)) (D.alloc (zi #[za 0,za 0,za 0] 91))):=(E.bk _ (by have:=r.out;have:=d.out;omega)).trans HS
   have HA:Hid ((D.alloc (zi #[za 0,za 0,za 0] 91)).heap[N]?=some (zi #[za 0,za 0,za 0] 91)):=by have h:=zt D (zi #[za 0,za 0,za 0] 91);rw[d.out] at h;exact h
   have m:Hid _:=I.trans E;refine hOn 8 rfl ?_;have eN:=d.out;go_simp;clear eN E;generalize D.alloc (zi #[za 0,za 0,za 0] 91)=wb at*;refine⟨f,?_⟩;refine hOn 9 rfl ?_;refine wsR [za t.seq,za nb,za cr] HA ?_;intro S hy M;have J:Hid ((fun w':World=>w'.heap[w.heap.size]?=some (zi #[za t.seq,zj l t.homes.length b,zj k t.rV.length cap] 35)) S):=(M.block _ (by have:=r.out;have:=m.size;omega) (by have:=r.out;omega)).trans f
   have HR:Hid (zr 0 0 w2 S∧S.heap[N]?=some (zi #[za t.seq,za nb,za cr] 91)):=⟨m.step M (by have:=r.out;omega),hy⟩;clear hy M;refine⟨J,hDn ?_⟩;go_wp2;go_meet;exact⟨rfl,HR⟩
  ·have E:zr 0 0 C (C.alloc (zi #[za 0,za 0,za 0] 91)):=zr.al C;have f:Hid ((fun w':World=>w'.heap[w.heap.size]?=some (zi #[za t.seq,zj l t.homes.length b,zj k t.rV.length cap] 35)) (C.alloc (zi #[za 0,za 0,za 0] 91))):=(E.bk _ (by have:=r.out;have:=d.out;omega)).trans HS;have HA:Hid ((C.alloc (zi #[za 0,za 0,za 0] 91)).heap[N]?=some (zi #[za 0,za 0,za 0] 91)):=by have h:=zt C (zi #[za 0,za 0,za 0] 91);rw[d.out] at h;exact h
   have m:Hid _:=I.trans E;have eN:=d.out;go_simp;clear eN E;generalize C.alloc (zi #[za 0,za 0,za 0] 91)=wb at*;refine⟨f,?_⟩;refine hOn 6 rfl ?_;refine zv 47 #[zg g L O] zq (j.out wb m.out) ?_;rintro e D ⟨rfl,rfl⟩;refine⟨_,rfl,f,?_⟩;go_simp;refine hTk 7 (.agg #[za t.seq,za nb,za cr]) rfl (fun w' ad=>zm) f.out ?_;go_simp;refine hOn 9 rfl ?_;refine wsR [za t.seq,za nb,za cr] HA ?_;intro S hy M;have J:Hid ((fun w':World=>w'.heap[w.heap.size]?=some (zi #[za t.seq,zj l t.homes.length b,zj k t.rV.length cap] 35)) S):=(M.block _ (by have:=r.out;have:=m.size;omega) (by have:=r.out;omega)).trans f
   have HR:Hid (zr 0 0 w2 S∧S.heap[N]?=some (zi #[za t.seq,za nb,za cr] 91)):=⟨m.step M (by have:=r.out;omega),hy⟩;clear hy M;refine⟨J,hDn ?_⟩;go_wp2;go_meet;exact⟨rfl,HR⟩
 case rest=>
  obtain⟨rfl,v,aa⟩:=hcut;generalize wc=w3 at*;have s3:=v.size;obtain⟨⟨y0,y1,y2⟩,_⟩:=tri aa;have V:=K.out w3 v;have i:=Jp w3 t.seq nb cr;rw[X.out] at i;have ah:Hid _:=ag.trans v;clear aa K;go_wp2_with fail;refine i.mono ?_;rintro e w4 ⟨v4,rfl,o4,h4⟩;obtain⟨g4,c4,rfl⟩:=o4.some_of (by rw[o.out];omega);rw[o.out] at o4⊢;have Z:zC w4 w3.heap.size w4.heap.size .u8 (zg g4 64 c4) cb:=o4.view (by rw[o.out];omega) (fun g Q=>(o4.lt g Q).2)
  have i:=qw (xs:=bs.flatten) (ys:=cb) w4 (by rw[P];omega) (by rw[o.out];omega) (V.chg h4 zk) Z;have ai:Hid _:=ah.trans h4;have s4:=h4.size;clear o4 h4 Z V y0 y1 y2 v;go_wp2_with fail;refine i.mono ?_;rintro e w5 ⟨v5,rfl,o5,h5⟩;have R:(bs.flatten++cb).length=64*(TL t).length:=by rw[n.out,mL,P,o.out,mL];rfl
  have ac:(TL t).flatten=bs.flatten++cb:=by rw[n.out,rP];simp
  obtain⟨g5,c5,rfl⟩:=o5.some_of (by rw[R,n.out,mL];simp);rw[R] at o5⊢;have ak:Hid (zu w5 w.heap.size 5 (zg g5 (64*(TL t).length) c5) (TL t).flatten):=by
   show zu _ _ _ _ _;rw[ac];exact o5.base (fun g Q=>by have:=(o5.lt g Q).1;omega)
  have aj:Hid _:=ai.trans h5;clear i o5 h5 R ac;go_wp2;go_ret;exact⟨_,_,rfl,ak,aj⟩
theorem Ze {t:Tx}(d: ∀x∈t.homes,Byt x.2):(TL t).length≤257∧ ∀b∈TL t,b.length=64:=by
 by_cases a:qy t
 ·have e:TL t=BL t.seq t.homes t.rV++ [Vz t.seq (BL t.seq t.homes t.rV)]:=by unfold TL;rw[mM (qu a)]
  have c:=OkT.of a d;obtain⟨⟨_,f,g⟩,_⟩:=a;obtain⟨h,i⟩:=Ea 128 (q:=t.seq) (hs:=t.homes) (rs:=t.rV) zk c;rw[e];refine⟨by rw[mL];simp;omega,?_⟩;intro b hb;rcases nu.1 hb with hb|hb
  ·exact h b hb
  ·rw[nx.1 hb];exact gR c.q0 c.q1
 ·have e:TL t= []:=by unfold TL;rw[qg a];rfl
  rw[e];simp
theorem Zv (w:World){t:Tx}(z:Qa t≤1048576)(y:hi≤w.heap.size)(d: ∀x∈t.homes,Byt x.2)(h1:jy w lo hi a t):
  Calls Tryz.prog 8 #[a] w fun e w'=>e= .returned (za (TL t).length)∧zr 0 0 w w':=by
 have o:=h1;obtain⟨F,G,rfl,p,q⟩:=h1;obtain⟨i,b,rfl⟩:=p.slice;obtain⟨h,cap,rfl⟩:=q.slice;have f:zr 0 0 w (w.alloc (zi #[za t.seq,zj i t.homes.length b,zj h t.rV.length cap] 35)):=zr.al w;have l:=zt w (zi #[za t.seq,zj i t.homes.length b,zj h t.rV.length cap] 35);obtain⟨⟨B,C,D⟩,_⟩:=tri l;have n:=qq (w.alloc (zi #[za t.seq,zj i t.homes.length b,zj h t.rV.length cap] 35)) z (by have:=f.size;omega) d (o.chg f zk)
 obtain⟨v,_⟩:=Ze d;clear l o p q;go_enter Tryz.func8,Tryz.ntmps8;go_wp2_with fail;generalize w.alloc (zi #[za t.seq,zj i t.homes.length b,zj h t.rV.length cap] 35)=H at*;refine n.mono ?_;rintro e I ⟨g,c,rfl,_,h2⟩;obtain⟨m,k⟩: ∃m,(TL t).length=m:=⟨_,rfl⟩;have s:Hid _:=k;rw[k] at v⊢;clear k;obtain⟨L,j⟩: ∃L,L=64*m:=⟨_,rfl⟩;have E:(L:Int).tdiv 64=(m:Int):=by rw[sM zk,j];omega
 have A:IntKind.i64.wrap (m:Int)=(m:Int):=by rw[mS];omega
 have r:Hid _:=f.trans h2;have u:L≤20000:=zk;rw[←j];clear j n f h2 B C D;go_wp2;go_ret;exact⟨by rw[s.out];rfl,r⟩
def kindOf (xs:List Int):Int:=if xs.length=64∧xs.take 4=mg∧(1≤xs.getD 4 0∧xs.getD 4 0≤4) then xs.getD 4 0 else 0
theorem ir (w:World)(a b:Obj):((w.alloc a).alloc b).heap[w.heap.size]?=some a:=(zU w a b).2.1
theorem fj (w:World)(b a:Obj):((w.alloc b).alloc a).heap[w.heap.size+1]?=some a:=(zU w b a).2.2
theorem VI (w:World)(h1:zC w lo hi .u8 a xs)(S:Byt xs)(H:Za w tL tM tK vL vM vK)(T:ZY w):
  Calls Tryz.prog 154 #[a] w fun e w'=>e= .returned (za (kindOf xs))∧zr 0 0 w w':=by
 have U:Calls Tryz.prog 167 #[a] w fun e w'=> ∃(L:List Value) (h0 h1 h2 h3 o F G:Int) (g:Value),e= .returned (.tuple #[.agg L.toArray,.agg #[zb h0,zb h1,zb h2,zb h3,za o,za F,za G],g])∧L.length=64∧(∀v∈L,v.oneCell'=true)∧zr 0 0 w w'∧
   ((kindOf xs=0∧ ∃b,g= .iface 244 (zh b))∨(kindOf xs=o∧g= .nilIface)):=by
  by_cases u:xs.length=64
  ·refine(Xe w h1 S H u).mono ?_;rintro e w' ⟨g,rfl,J,M⟩;refine⟨_,_,_,_,_,_,_,_,g,rfl,by simpa using u,ints_oneCell _ _,J,?_⟩;rcases M with⟨x,b,k,_,m,_⟩|⟨x,K,b,k,_,m,_⟩|⟨x,K,m⟩
   ·exact Or.inl ⟨by unfold kindOf;rw[mN (fun h=>x h.2.1)],b,m⟩
   ·exact Or.inl ⟨by unfold kindOf;rw[mN (fun h=>K h.2.2)],b,m⟩
   ·exact Or.inr ⟨by unfold kindOf;rw[mM ⟨u,x,K⟩],m⟩
  ·refine(Vc w h1 H u).mono ?_;rintro e w' ⟨g,rfl,⟨b,k,_,m,_⟩,J⟩;exact⟨Z64,0,0,0,0,0,0,0,g,rfl,zN,dy,J,Or.inl ⟨by unfold kindOf;rw[mN (fun h=>u h.1)],b,m⟩⟩
 obtain⟨W,cap,rfl,X,_,_⟩:=h1;generalize kindOf xs=kd at*;have A:Hid (ZY w):=T;clear H S T;go_enter Tryz.func154,Tryz.ntmps154;go_wp2_with fail;refine U.mono ?_;rintro e d ⟨L,h0,h1,h2,h3,o,F,G,g,rfl,E,R,r,M⟩;have B:Hid (L.length=64):=E;have C:Hid (∀v∈L,v.oneCell'=true):=R;have s:(Tryz.prog.info? 78).map (·.size)=some L.length:=by rw[E];kernel_rfl
 have y:Hid (zr 0 0 w d):=r;clear U E R r;go_upto_region 2 with(first
  |(refine wpList_store_row rfl 78 (.tmp 3) (.tmp 9) rfl rfl d.heap.size rfl L Z64 78 rfl (by rw[←qd];exact ir _ _ _) (by rw[zN];exact B) s C ?_;intro w2 I f)
  |(refine wpList_store_row rfl 146 (.tmp 4) (.tmp 10) rfl rfl (d.heap.size+1) rfl [zb h0,zb h1,zb h2,zb h3,za o,za F,za G] z7 146 rfl ((f.bk (d.heap.size+1) zn).trans (fj _ _ _)) rfl zl (by simp[Value.oneCell']) ?_;intro n q l))
 have Z:=f.size;have s3:=l.size;have V: ∀N O:Obj,((d.alloc N).alloc O).heap.size=d.heap.size+2:=fun N O=>(zU d N O).1;have Q:zr 0 0 d n:=(((zr.al d).alloc _).step f).step l;have i:Hid (zr 0 0 w n):=y.trans Q;have z:Hid (ZY n):=A.chg i zk;have t:n.cell? ⟨d.heap.size+1,4,none⟩=some (za o):=by simp[World.cell?,q]
 have D:Hid (n.cell? ⟨d.heap.size+1,4,none⟩=some (za o)):=t;clear I q f l Q V t;rcases M with⟨rfl,b,rfl⟩|⟨rfl,rfl⟩
 ·have p:=N5 n (zd b) z;go_wp2_with fail;refine p.mono ?_;rintro e P ⟨rfl,c⟩;have j:Hid (zr 0 0 w P):=i.trans c;clear p c;go_wp2;go_ret;exact⟨rfl,j⟩
 ·have p:=Qe n;go_wp2_with fail;refine p.mono ?_;rintro e P ⟨rfl,c⟩;have j:Hid (zr 0 0 w P):=i.trans c;have Y:=c.cell D;clear p c;go_wp2;go_ret;exact⟨rfl,j⟩
def FB:Type:=(Int×List Int)⊕(Int×List (Int×Bool))⊕(Int×Int×Int)⊕List Int
abbrev FB.rev (q:Int) (rs:List Int):FB:= .inl (q,rs)
abbrev FB.des (q:Int) (ts:List (Int×Bool)):FB:= .inr (.inl (q,ts))
abbrev FB.com (q c s:Int):FB:= .inr (.inr (.inl (q,c,s)))
abbrev FB.raw (b:List Int):FB:= .inr (.inr (.inr b))
theorem FB.el {p:FB→Prop}(x:FB)(rev: ∀q rs,p (.rev q rs))(des: ∀q ts,p (.des q ts))(com: ∀q c s,p (.com q c s))(raw: ∀b,p (.raw b)):p x:=match x with
 | .inl (q,rs)=>rev q rs
 | .inr (.inl (q,ts))=>des q ts
 | .inr (.inr (.inl (q,c,s)))=>com q c s
 | .inr (.inr (.inr b))=>raw b
def FB.bs:FB→List Int
 | .inl (q,rs)=>qk (zD 3 (rs.length:Int) q++qm rs)
 | .inr (.inl (q,ts))=>qk (zD 2 (ts.length:Int) q++zP ts)
 | .inr (.inr (.inl (q,c,s)))=>qk (zD 4 c q++zx s 4)
 | .inr (.inr (.inr b))=>b
def FB.ok:FB→Prop
 | .inl (q,rs)=>(1≤q∧q≤4294967295)∧Vq rs∧1≤rs.length∧rs.length≤26
 | .inr (.inl (q,ts))=>(1≤q∧q≤4294967295)∧Vq (ts.map Prod.fst)∧1≤ts.length∧ts.length≤17
 | .inr (.inr (.inl (q,c,s)))=>(1≤q∧q≤4294967295)∧(1≤c∧c≤511)∧0≤s∧s≤4294967295
 | .inr (.inr (.inr b))=>b.length=64∧Byt b∧b.take 4≠mg
def FB.kind:FB→Int
 | .inl (_,_)=>3
 | .inr (.inl (_,_))=>2
 | .inr (.inr (.inl (_,_,_)))=>4
 | .inr (.inr (.inr _))=>0
theorem bU {Y:List Int}(h:Y.length≤64):(qk Y).length=64:=by
 unfold qk;rw[mL,nC];omega
theorem FB.len {x:FB}(h:x.ok):x.bs.length=64:=by
 cases x using FB.el with
 |rev q rs=>
  obtain⟨a,d,e⟩:=h;refine bU ?_;rw[mL,jH (pn2) (pn4 zk a.2),Jn d.2];omega
 |des q ts=>
  obtain⟨a,d,e⟩:=h;refine bU ?_;rw[mL,jH (pn2) (pn4 zk a.2),Jr (Js d.2)];omega
 |com q c s=>
  obtain⟨a,f,hs⟩:=h;refine bU ?_;rw[mL,jH (pn2) (pn4 zk a.2),pn4 hs.1 hs.2];omega
 |raw b=>exact h.1
theorem FB.byt {x:FB}(h:x.ok):Byt x.bs:=by
 cases x using FB.el with
 |rev q rs=>exact Xp ((Jc).app (Ef _))
 |des q ts=>exact Xp ((Jc).app (Eg _))
 |com q c s=>exact Xp ((Jc).app (qE _ _))
 |raw b=>exact h.2.1
theorem FB.head {x:FB}(h:x.ok):kindOf x.bs=x.kind∧(x.kind≠0→x.bs.take 4=mg):=by
 have g:=FB.len h
 cases x using FB.el with
 |rev q rs=>
  obtain⟨f,j,i⟩:=h;obtain⟨a,d,_⟩:=Qc (k:=3) (c:=(rs.length:Int)) (q:=q) (Y:=qm rs) (pn2 zk zk) (pn4 zk f.2);refine⟨?_,fun _=>a⟩;unfold kindOf;rw[mM]
  ·exact d
  ·exact⟨g,a,by change 1≤(qk (zD 3 (rs.length:Int) q++qm rs)).getD 4 0∧(qk (zD 3 (rs.length:Int) q++qm rs)).getD 4 0≤4;omega⟩
 |des q ts=>
  obtain⟨f,j,i⟩:=h;obtain⟨a,d,_⟩:=Qc (k:=2) (c:=(ts.length:Int)) (q:=q) (Y:=zP ts) (pn2 zk zk) (pn4 zk f.2);refine⟨?_,fun _=>a⟩;unfold kindOf;rw[mM]
  ·exact d
  ·exact⟨g,a,by change 1≤(qk (zD 2 (ts.length:Int) q++zP ts)).getD 4 0∧(qk (zD 2 (ts.length:Int) q++zP ts)).getD 4 0≤4;omega⟩
 |com q c s=>
  obtain⟨f,l,hs⟩:=h;obtain⟨a,d,_⟩:=Qc (k:=4) (c:=c) (q:=q) (Y:=zx s 4) (pn2 zk zk) (pn4 zk f.2);refine⟨?_,fun _=>a⟩;unfold kindOf;rw[mM]
  ·exact d
  ·exact⟨g,a,by change 1≤(qk (zD 4 c q++zx s 4)).getD 4 0∧(qk (zD 4 c q++zx s 4)).getD 4 0≤4;omega⟩
 |raw b=>
  refine⟨?_,fun h=>absurd rfl h⟩;unfold kindOf;rw[mN]
  ·rfl
  ·exact fun e=>h.2.2 e.2.1
theorem iO (w:World){c s:Int}(h:(FB.com q c s).ok)(h1:zC w lo hi .u8 a (FB.com q c s).bs)(g:Za w tL tM tK vL vM vK):
  Calls Tryz.prog 176 #[a] w fun e w'=>e= .returned (.tuple #[.agg #[zb 106,zb 108,zb 111,zb 103,za 4,za c,za q,za s],.nilIface])∧zr 0 0 w w':=by
 have f:=FB.byt h;obtain⟨d,b,hs⟩:=h;exact iP w c q s h1 f g ⟨d.1,d.2,b.1,b.2⟩ hs
theorem am (h: ∀x∈rs,0≤x∧x<2048)(Z:List Int): ∀i,i<rs.length→((qm rs++Z).drop (2*i)).take 2=zx (rs.getD i 0) 2:=by
 induction rs with
 |nil=>intro i hi;simp at hi
 |cons x r ih=>
  intro i hi;have b:=Zc (h x zn);have e:qm (x::r)=zx x 2++qm r:=by unfold qm;rw[nX]
  rw[e,nk]
  cases i with
  |zero=>rw[Nat.mul_zero,sN,oG zk,ny zk];rfl
  |succ i=>
   rw[show 2*(i+1)=(zx x 2).length+2*i by omega,pY,pp zk,nG,pI];exact ih (fun y a=>h y (by simp[a])) i (by simpa using hi)
theorem iR (w:World)(h:(FB.rev q rs).ok)(h1:zC w lo hi .u8 a (FB.rev q rs).bs)(s:Za w tL tM tK vL vM vK):
  Calls Tryz.prog 174 #[a] w fun e w'=> ∃g,e= .returned (.tuple #[.agg #[zb 106,zb 108,zb 111,zb 103,za 3,za (rs.length:Int),za q,zg g rs.length rs.length],.nilIface])∧zM w' w.heap.size 2 (zg g rs.length rs.length) rs∧zr 0 0 w w':=by
 have r:=FB.byt h;have u:=FB.len h;obtain⟨l,j,f⟩:=h;have b:=pn2 (v:=(rs.length:Int));have d:=pn4 (v:=q) zk l.2;obtain⟨m,n,o,p⟩:=Qc (k:=3) (c:=(rs.length:Int)) (q:=q) (Y:=qm rs) b d;refine UZ w rs q h1 r s u m n o (fun i hi=>?_) rfl l j f b d;have e:(qk (zD 3 (rs.length:Int) q++qm rs)).drop (12+i*2)=((qk (zD 3 (rs.length:Int) q++qm rs)).drop 12).drop (2*i):=by rw[pK];congr 1;omega
 show qI (((qk (zD 3 (rs.length:Int) q++qm rs)).drop (12+i*2)).take 2)=_;rw[e,p,am j.2 _ i hi];have x:rs.getD i 0∈rs:=by
  rw[mV,mZ hi];exact nj hi
 have t:=j.2 _ x;exact jc _ _ zk (fun e=>by have:=Zc t;rw[e] at this;simp at this)
theorem aK (h: ∀x∈ts,0≤x.1∧x.1<2048)(Z:List Int): ∀i,i<ts.length→((zP ts++Z).drop (3*i)).take 3=XF (ts.getD i (0,false)):=by
 induction ts with
 |nil=>intro i hi;simp at hi
 |cons x r ih=>
  intro i hi;have b:(XF x).length=3:=by unfold XF;rw[mL,Zc (h x zn)];rfl
  have e:zP (x::r)=XF x++zP r:=by unfold zP;rw[nX]
  rw[e,nk]
  cases i with
  |zero=>rw[Nat.mul_zero,sN,oG zk,ny zk];rfl
  |succ i=>
   rw[show 3*(i+1)=(XF x).length+3*i by omega,pY,pp zk,nG,pI];exact ih (fun y a=>h y (by simp[a])) i (by simpa using hi)
theorem iQ (w:World)(h:(FB.des q ts).ok)(h1:zC w lo hi .u8 a (FB.des q ts).bs)(x:Za w tL tM tK vL vM vK):
  Calls Tryz.prog 175 #[a] w fun e w'=> ∃g,e= .returned (.tuple #[.agg #[zb 106,zb 108,zb 111,zb 103,za 2,za (ts.length:Int),za q,zg g ts.length ts.length],.nilIface])∧w.heap.size≤g∧qR w' g 174 (jo ts)∧zr 0 0 w w':=by
 have u:=FB.byt h;have z:=FB.len h;obtain⟨m,j,f⟩:=h;have b:=pn2 (v:=(ts.length:Int));have d:=pn4 (v:=q) zk m.2;obtain⟨n,o,p,r⟩:=Qc (k:=2) (c:=(ts.length:Int)) (q:=q) (Y:=zP ts) b d;refine YG w ts q h1 u x z n o p (fun i hi=>?_) rfl m j f b d;have A:ts.getD i (0,false)∈ts:=by
  rw[mV,mZ hi];exact nj hi
 have y:=Js j.2 _ A;have h2:=Zc y;have e:(qk (zD 2 (ts.length:Int) q++zP ts)).drop (12+i*3)=((qk (zD 2 (ts.length:Int) q++zP ts)).drop 12).drop (3*i):=by rw[pK];congr 1;omega
 have h3:((qk (zD 2 (ts.length:Int) q++zP ts)).drop (12+i*3)).take 3=XF (ts.getD i (0,false)):=by rw[e,r];exact aK (Js j.2) _ i hi
 show qI (((qk (zD 2 (ts.length:Int) q++zP ts)).drop (12+i*3)).take 2)=_∧(qk (zD 2 (ts.length:Int) q++zP ts)).getD (12+i*3+2) 0=_;generalize ts.getD i (0,false)=t at*;generalize qk (zD 2 (ts.length:Int) q++zP ts)=X at*;unfold XF at h3;refine⟨?_,?_⟩
 ·have:(X.drop (12+i*3)).take 2=zx t.1 2:=by
   have s:(X.drop (12+i*3)).take 2=((X.drop (12+i*3)).take 3).take 2:=by rw[List.take_take];congr 1
   rw[s,h3,oG zk,ny zk]
  rw[this];exact jc _ _ zk (fun e=>by rw[e] at h2;simp at h2)
 ·have l:((X.drop (12+i*3)).take 3)[2]?=X[12+i*3+2]?:=by rw[List.getElem?_take_of_lt zk,oQ]
  rw[h3,oM zk,h2] at l;rw[mV,←l];rfl
abbrev Hv:=Int× (Value×List Int)
abbrev hK (e:Hv):List Value:= [za e.1,e.2.1]
def ZH (es:List Hv):List Value:=es.flatMap hK
def QQ (w:World) (base:Nat) (v:Value) (es:List Hv):Prop:=w.ownsRow base 68 2 v es.length (ZH es)
def dt (w:World) (lo:Nat) (es:List Hv):Prop:= ∀e∈es,zu w lo 5 e.2.1 e.2.2
theorem dt.chg {es:List Hv}(h:dt w lo es)(c:zr l r w w')(d:r≤lo∨r≤l∨w.heap.size≤l):dt w' lo es:=
 fun e a=>(h e a).chg c (fun g b=>by have:=(h e a).lt g b;omega)
theorem zu.keepH (h:zu w lo 5 v xs)(d: ∀(j:Nat) (a:Array Value) (t:TypeId),t≠68→w.heap[j]?=some (zi a t)→w'.heap[j]?=some (zi a t)):zu w' lo 5 v xs:=
 h.same fun j c=>by
  obtain⟨a,b⟩:=h.elem c
  exact(d j a _ zp b).trans b.symm
theorem bu (a b:List Hv):ZH (a++b)=ZH a++ZH b:=by unfold ZH;rw[pW]
theorem bw (a:List Hv):(ZH a).length=a.length*2:=by
 induction a with
 |nil=>rfl
 |cons q r ih=>
  show(hK q++ZH r).length=_;rw[mL,ih,m7];simp;omega
theorem YV (c:List Hv)(k:Nat)(h:k<c.length):(ZH c)[k*2]?=some (za c[k].1)∧(ZH c)[k*2+1]?=some c[k].2.1:=by
 induction c generalizing k with
 |nil=>simp at h
 |cons e c ih=>
  cases k with
  |zero=>exact⟨rfl,rfl⟩
  |succ k=>
   have i:k<c.length:=by simpa using h
   obtain⟨a,b⟩:=ih k i;have d:ZH (e::c)=hK e++ZH c:=rfl;have f:(k+1)*2=(hK e).length+k*2:=by simp;omega
   have g:(k+1)*2+1=(hK e).length+(k*2+1):=by simp;omega
   rw[d,g,f,oM zk,oM zk,pI,pI];exact⟨a,b⟩
theorem QQ.lt {es:List Hv}(h:QQ w base v es): ∀g,v.ownBlock=some g→base≤g∧g<w.heap.size:=np h
theorem QQ.chg {es:List Hv}(h:QQ w base v es)(c:zr l r w w')(d:r≤base∨r≤l∨w.heap.size≤l):QQ w' base v es:=by
 obtain⟨h1,h2⟩:=h;refine⟨h1,?_⟩;rcases h2 with h2|⟨g,cap,a,f,e,b,i⟩
 ·exact Or.inl h2
 ·have:=(zE b);exact Or.inr ⟨g,cap,a,f,e,(c.bk g this).trans b,i⟩
theorem QQ.low {base':Nat}{es:List Hv}(h:QQ w base v es)(d:base'≤base):QQ w base' v es:=by
 obtain⟨h1,h2⟩:=h;refine⟨h1,?_⟩;rcases h2 with h2|⟨g,cap,a,b,e,c⟩
 ·exact Or.inl h2
 ·exact Or.inr ⟨g,cap,a,b,zk,c⟩
theorem QQ.slice {es:List Hv}(h:QQ w base v es): ∃a c,v=zj a es.length c:=by
 rcases h.2 with⟨e,h0⟩|⟨g,cap,b,e,_⟩
 ·exact⟨_,_,by rw[h0];exact e⟩
 ·exact⟨_,_,e⟩
theorem QQ.cells {cp:Nat}{es:List Hv}(h:QQ w base (zg g n cp) es)(k:Nat)(i:k<es.length):w.cell? ⟨g,k*2,none⟩=some (za es[k].1)∧w.cell? ⟨g,k*2+1,none⟩=some es[k].2.1:=by
 have j:n=es.length:=by
  rcases h.2 with⟨e,h0⟩|⟨g,cap,f,e,_⟩
  ·simp at e
  ·simp only[ns] at e;exact e.2.1
 subst j;have l:=bw es;obtain⟨a,b⟩:=YV es k i;have c:=nA h (k*2) zk;have d:=nA h (k*2+1) zk;exact⟨c.trans a,d.trans b⟩
def lL (es:List Hv):Prop:=es.Pairwise fun a b=> ∀g,a.2.1.ownBlock=some g→b.2.1.ownBlock≠some g
structure qD (w:World)(base:Nat)(v:Value)(es:List Hv):Prop where
 row:QQ w base v es
 data:dt w base es
 apart:lL es
theorem qD.zero (w:World)(base:Nat):qD w base (zc) []:=⟨⟨rfl,Or.inl ⟨rfl,rfl⟩⟩,fun _ h=>by simp at h,List.Pairwise.nil⟩
theorem qD.low {base':Nat}{es:List Hv}(h:qD w base v es)(b:base'≤base):qD w base' v es:=
 ⟨h.row.low b,fun e a=>(h.data e a).base (fun g c=>by have:=((h.data e a).lt g c).1;omega),h.apart⟩
theorem qD.chg {es:List Hv}(h:qD w base v es)(c:zr l r w w')(d:r≤base∨r≤l∨w.heap.size≤l):qD w' base v es:=
 ⟨h.row.chg c d,h.data.chg c d,h.apart⟩
theorem qD.more {w1 w2:World}{cp:Nat}{dv:Value}{es:List Hv}(h:qD w base v es)(u:base≤w.heap.size)(i:zu w1 w.heap.size 5 dv xs)(c:zr 0 0 w w1)
  (s:QQ w2 base (zg g n cp) (es++ [(q,dv,xs)])) (_c2:zr base r (w1.alloc (zi #[za q,dv] 68)) w2)
  (l: ∀(j:Nat) (d:Array Value) (t:TypeId),t≠68→(w1.alloc (zi #[za q,dv] 68)).heap[j]?=some (zi d t)→w2.heap[j]?=some (zi d t)):
  qD w2 base (zg g n cp) (es++ [(q,dv,xs)]):=by
 have k:zr 0 0 w1 (w1.alloc (zi #[za q,dv] 68)):=zr.al w1;refine⟨s,fun e o=>?_,?_⟩
 ·rcases nu.1 o with r|r
  ·exact zu.keepH (((h.data e r).chg c (fun g _=>zk)).chg k (fun g _=>zk)) l
  ·obtain rfl:=nx.1 r;exact zu.keepH ((i.base (fun g p=>by have:=(i.lt g p).1;omega)).chg k (fun g _=>zk)) l
 ·refine List.pairwise_append.2 ⟨h.apart,List.pairwise_singleton _ _,fun a m b f g h1 h2=>?_⟩;obtain rfl:=nx.1 f;have:=((h.data a m).lt g h1).2;have:=(i.lt g h2).1;omega
theorem qD.slice {es:List Hv}(h:qD w base v es): ∃a n c,v=zj a n c:=by
 obtain⟨a,c,e⟩:=h.row.slice;exact⟨_,_,_,e⟩
end Go.Proofs.YthdeofoleiiibaaGreatDoor
