import Derived.Test.YthdeofoleiiibaaGreatDoorImplApp
import Derived.Test.YthdeofoleiiibaaGreatDoorLwKeep
namespace Go.Proofs.YthdeofoleiiibaaGreatDoor
open Go.RowKit
set_option maxRecDepth 100000
set_option maxHeartbeats 16000000
variable {w:World}{eB eO:TypeId}{base:Nat}{v:Value}{cells:List Value}{dvs:Nat→Value}
def Je (os:List Opx):Nat:=(os.map fun o=>o.2.2.length+2).sum
theorem kH (os:List Opx):os.length≤Je os:=by
 unfold Je
 induction os with
 |nil=>simp
 |cons p r ih=>simp at*;omega
theorem Vy (os:List Opx)(k:Nat)(h:k<os.length):Je (os.take (k+1))=Je (os.take k)+((os.getD k Opx.zero).2.2.length+2):=by
 unfold Je;rw[oy h,m6,List.sum_append_nat];simp[h]
theorem E0 (os:List Opx)(k:Nat):Je (os.take k)≤Je os:=by
 have:Je os=Je (os.take k)+Je (os.drop k):=by
  unfold Je;rw[←List.sum_append_nat,←m6,si]
 omega
theorem zL.lt' {os:List Opx}(h:zL w base eO eB v os cells dvs): ∀g,v.ownBlock=some g→base≤g∧g<w.heap.size:=np h.row
theorem zL.dlt' {os:List Opx}(h:zL w base eO eB v os cells dvs): ∀i g,i<os.length→(dvs i).ownBlock=some g→base≤g∧g<w.heap.size:=
 fun i g hi a=>(h.data i hi).lt g a
theorem zL.vw' {os:List Opx}(h:zL w base eO eB v os cells dvs)(c:Je os≤140737488355328)(b: ∀i,i<os.length→(os.getD i Opx.zero).2.2.length≤140737488355328):jN w base w.heap.size v os:=
 h.view (by have:=kH os;omega) (fun i hi=>by have:=b i hi;omega) (fun g a=>(h.lt' g a).2) (fun i g hi a=>(h.dlt' i g hi a).2)
theorem eI {os:List Opx}{i:Nat}(h:i<os.length):(os.getD i Opx.zero).2.2.length+2≤Je os:=by
 have h1:=Vy os i h;have h2:=E0 os (i+1);omega
theorem zL.look {os:List Opx}(h:zL w base eO eB v os cells dvs)(a:Je os≤140737488355328):jN w base w.heap.size v os:=
 h.vw' a (fun i hi=>by have:=eI hi;omega)
theorem dC {os:List Opx}(h: ∀o∈os,o.2.2.length≤64):Je os≤os.length*66:=by
 unfold Je
 induction os with
 |nil=>simp
 |cons o os ih=>
  have h1:=h o zn;have h2:=ih (fun p a=>h p (by simp[a]));simp only[nR,List.sum_cons,m7];omega
theorem Vt (sz c b a j:Int){t:Tx}(e: ∀x∈t.homes,Byt x.2):Je (Zq sz c b a j t)≤20000:=by
 unfold Zq;split
 case isFalse=>simp[Je]
 case isTrue h=>
  obtain⟨k,d⟩:=Ze e;have f:zQ sz c b a j=true:=by unfold qv at h;simp only[pR] at h;exact h.1
  have h1: ∀o∈zG sz c b a,o.2.2.length≤64:=by
   unfold zG;split
   ·intro o ho;simp at ho;rcases ho with rfl|rfl
    ·exact pu (YL (QC f))
    ·simp
   ·simp
  have h2:(zG sz c b a).length≤2:=by unfold zG;split<;>simp
  have h3: ∀o∈jl sz a (TL t) (TL t).length,o.2.2.length≤64:=by
   intro o ho;unfold jl at ho;obtain⟨i,hi,rfl⟩:=m9.1 ho;have hi':=pq.1 hi;exact pu (d _ (Qq ⟨i,hi'⟩))
  have g:= @dC (zG sz c b a++jl sz a (TL t) (TL t).length++ [(2,0,[])]) (by
   intro o ho
   rcases nu.1 ho with ho|ho
   ·rcases nu.1 ho with ho|ho
    ·exact h1 o ho
    ·exact h3 o ho
   ·rw[nx.1 ho];simp)
  rw[mL,mL,qM] at g;simp only[m7,nH] at g;omega
theorem gh (sz e c a f:Int):Je (Jt sz e c a f)≤140737488355328:=by
 unfold Jt;split
 case isFalse=>simp[Je]
 case isTrue h=>
  have d:= @dC (jh (qz 106 108 111 103 1 sz c a)) (by
   intro o b
   simp[jh] at b
   rcases b with rfl|rfl
   ·exact pu (YL (QC h.1))
   ·simp)
  simp only[jh,m7,nH] at d⊢;omega
theorem gZ (w:World)(a b c d:Int)(v:Value):(Instr.field 47 (.agg #[za a,za b,za c,za d,v]) 0).run Tryz.prog w= .ok (za a) w:=by
 simp[Instr.field,pG Tryz.underlying47,asAgg,part,isAgg,pG Tryz.underlying2]
theorem hH (w:World)(a b c d:Int)(x:Option Addr)(l k:Nat):(Instr.field 47 (.agg #[za a,za b,za c,za d,zj x l k]) 2).run Tryz.prog w= .ok (zj x l k) w:=by
 kernel_rfl
theorem LI.appLen {d:Dsk}{sz:Nat}{F:Nat→FB}{st sq hd us q0:Nat}{ts:List Tx}(h:LI d sz F st sq hd us q0 ts){t:Tx}(c:qy t)(a:t.seq=sq)(f:(TL t).length≤sz-us):1≤(Zq sz st sq hd us t).length∧(Zq sz st sq hd us t).length≤4000:=by
 have g:=h.sqb;have e:=h.log.big;have i:=h.usb;have b:qv sz st sq hd us t=true:=by
  unfold qv;rw[h.valid,qu c,mR (show(sq:Int)=t.seq from a.symm),mR (show(sq:Int)<4294967295 by omega),mR (show((TL t).length:Int)≤(sz:Int)-us by omega)];rfl
 unfold Zq;rw[mM b,mL,mL,qM];have:(zG sz st sq hd).length≤2:=by unfold zG;split<;>simp[jh]
 simp;omega
theorem gV (d:Dsk)(os:List Opx)(k:Int):(doD d os k).Fits:=by
 unfold doD;split
 ·rename_i a
  cases e:Zt d (Zk os k) with
  |none=>exact⟨by simp[Dsk.none],by simp[Dsk.none],by simp[Dsk.none]⟩
  |some d'=>exact(JM e ((Qi d).1 a.1)).fit
 ·exact⟨by simp[Dsk.none],by simp[Dsk.none],by simp[Dsk.none]⟩
theorem qK.at0 {lo hi:Nat}{eW:TypeId}{v0 v1:Value}{d:Dsk}(h:qK w lo hi eW eB (.agg #[v0,v1]) d)(h0:0<d.dR.length)(k:d.pN= []): ∃g cap pa pc,v0=zj (some ⟨g,0,Option.none⟩) d.dR.length cap∧v1=zj pa 0 pc:=by
 obtain⟨l,n,b,j,h⟩:=h;have e:=h.agg;simp only[sk,td,pF,pH] at e;obtain⟨rfl,rfl⟩:=e;rcases h.dR.2 with⟨_,e⟩|⟨g,cap,i,e,_⟩
 ·omega
 ·rcases h.pN.row.2 with⟨a,_⟩|⟨m,c,f,a,_⟩
  ·exact⟨g,cap,_,_,e,a⟩
  ·rw[k] at a;exact⟨g,cap,_,_,e,a⟩
theorem kM {lo hi:Int}{ts:List Tx}(h: ∀t∈ts,ZQ lo hi t):(ts.flatMap qx).map FB.bs=ts.flatMap TL:=by
 induction ts with
 |nil=>rfl
 |cons t r ih=>rw[nX,m6,nX,jQ (h t zn).v,ih (fun x a=>h x (by simp[a]))]
theorem ku {lo hi:Int}{ts tl uu:List Tx}{ys xs:List FB}{q sq:Int}{t:Tx}{st:Nat}{P:Prop}(f: ∀t∈ts,ZQ lo hi t)(j:st=0→ts= []∧tl= [])
  (k:st≠0→QH lo hi xs q (ts++tl)∧xs=ts.flatMap qx++ys∧(∀i,i<ts.length→(ts.getD i ⟨0,[],[]⟩).seq=q+i)∧q+ts.length=sq∧(∀t'∈tl,Nx lo hi (ys.map FB.bs) sq t')) (l:P→tl= [t]) (m: ∀t'∈tl,TL t'=TL t→P)
  (n:st≠0→SpR lo hi (xs.map FB.bs) q uu) (o: ∀u∈uu,u.seq=sq→TL u=TL t):(P→ts++tl=ts++ [t])∧(¬P→ts++tl=ts):=by
 refine⟨fun d=>by rw[l d],fun d=>?_⟩
 cases tl with
 |nil=>rw[nw]
 |cons t' r=>
  exfalso;have c:st≠0:=fun e=>by have:=(j e).2;cases this
  obtain⟨-,e,hs,hq,hN⟩:=k c;have a:=hN t' zn;have b:=n c;rw[e,m6,kM f] at b;rw[←hq] at a;obtain⟨u,p,g,h⟩:=fX ts q (ys.map FB.bs) uu f hs b t' a;exact d (m t' zn (h.symm.trans (o u p (by rw[g,a.s,hq]))))
structure TnW (D:List Int)(sz hd st:Nat)(t:Tx)(wJ:World)(x15 x16:Value)(w:World):Prop where
 ex: ∃(k:Nat) (wb:Bool),(x16=za k∧x15= .bool wb)∧k≤(TL t).length∧(wb=true↔st≠0∧ ∀j,j<k→blk D (2+(hd-1+j) % sz)=(TL t).getD j [])∧zr 0 0 wJ w
structure TnX (W:World)(B sz:Nat)(d:Dsk)(st sq hd us:Int)(v0 v1:Value)(ts:List Tx)(x:Value)(w:World):Prop where
 lg:LgW W B w d sz st sq hd us v0 v1 x ts
theorem E7 {W:World}{cv mv:Value}{code ms:List Int}{hi:Nat}{tL tM tK:TypeId}{vL vM vK:Value}(hb:Byt code)(hm:Byt ms)(bJ:zC W 0 hi .u8 cv code)(bQ:zC W 0 hi .u8 mv ms)(aU:hi≤W.heap.size)(hG:Za W tL tM tK vL vM vK)(hE:ZY W)(hM:Mag W)(cf:8≤W.heap.size):
  Calls Tryz.prog 3 #[cv,mv] W fun e w'=>e= .returned (.bool true)∧zr 0 0 W w':=by
 obtain⟨ca,cc,rfl,dx,bl⟩:=id bJ;obtain⟨ma,mc,rfl,dA,cW⟩:=id bQ;clear bl cW;have HG:Hid (Za W tL tM tK vL vM vK∧ZY W∧Mag W∧8≤W.heap.size):=⟨hG,hE,hM,cf⟩;have HV:Hid ((zC W 0 hi .u8 (zj ca code.length cc) code∧zC W 0 hi .u8 (zj ma ms.length mc) ms)∧Byt code∧Byt ms):=⟨⟨bJ,bQ⟩,hb,hm⟩;clear hG hE hM cf bJ bQ hb hm;obtain⟨n,Hn⟩: ∃n,Hid (n=code.length):=⟨_,rfl⟩;obtain⟨m,Hm⟩: ∃m,Hid (m=ms.length):=⟨_,rfl⟩
 rw[←Hn.out,←Hm.out] at HV⊢;go_enter Tryz.func3,Tryz.ntmps3;by_cases cn:n>1048576∨m>1048576
 ·have co:zr 0 0 W W:=zr.refl _ _ _;by_cases h3:n>1048576
  ·have h1:decide ((n:Int)>1048576)=true:=mR zk;have cO:(1048576:Int)<(n:Int):=zk;go_wp2;go_ret;exact⟨rfl,co⟩
  ·have h1:decide ((n:Int)>1048576)=false:=mY zk;have h2:decide ((m:Int)>1048576)=true:=mR zk;have cO: ¬(1048576:Int)<(n:Int):=zk;have dw:(1048576:Int)<(m:Int):=zk;go_wp2;go_ret;exact⟨rfl,co⟩
 have h1:decide ((n:Int)>1048576)=false:=mY zk;have h2:decide ((m:Int)>1048576)=false:=mY zk;have dC:n≤1048576∧m≤1048576:=zk;have a3:Hid (∀(w:World) (i k:Nat),i≤1000→k≤100000→zC w 0 hi .u8 (zj ma m mc) ms→Calls Tryz.prog 4 #[zj ma m mc,za i,za k] w fun e w'=>(∃r:Nat,e= .returned (za r)∧(1<k→r<k)∧(k≤1→r=0))∧qj w w'):=fun w i k h1 h2 hv=>JF w i k zk zk HV.2.2 hv (by have:=Hm.out;omega);clear cn;go_wp2_with fail
 have L:=a3.out W 0 40 zk zk HV.1.2;rw[show(((0:Nat):Int))=0 from rfl,show(((40:Nat):Int))=40 from rfl] at L;refine L.mono ?_;rintro e w1 ⟨⟨r,rfl,hr,-⟩,hsame⟩;have cH:=hr zk;clear L hr h1 h2;have c1:zr 0 0 W w1:=hsame.chg 0 0;obtain⟨sz,c8⟩: ∃sz:Nat,sz=24+r:=⟨_,rfl⟩;have de:IntKind.i64.wrap (24+(r:Int))=(sz:Int):=by rw[mS];omega
 have dq:24≤sz∧sz≤63:=zk;have aW:16≤sz∧sz≤79:=zk;clear c8 cH hsame;go_wp2_with fail;refine(VS w1 sz aW).mono ?_;rintro e w2 ⟨v2,rfl,ce,c2⟩;go_wp2_with fail;refine(K9 w2 ce).mono ?_;rintro e w3 ⟨v3,rfl,y,c3⟩;rw[fy aW] at y;have bk:zr 0 0 W w3:=(c1.trans c2).trans c3;have s2:=(c1.trans c2).size;obtain⟨a,l,c,a',l',c',rfl⟩:=y.agg;clear ce c1 c2 c3 de;have cD:zr 0 0 w3 (w3.alloc (zi #[zj a l c,zj a' l' c'] 26)):=zr.al w3
 have L:=a3.out _ 1 sz zk zk ((HV.1.2.chg bk zk).chg cD zk);rw[show(((1:Nat):Int))=1 from rfl] at L;go_wp2_with fail;refine L.mono ?_;rintro e w4 ⟨⟨r1,rfl,hr1,-⟩,hsame⟩;have cE:=hr1 zk;obtain⟨hd,cU⟩: ∃hd:Nat,hd=1+r1:=⟨_,rfl⟩;have dc:IntKind.i64.wrap (1+(r1:Int))=(hd:Int):=by rw[mS];omega
 have bx:1≤hd∧hd≤sz:=zk;have e4:w4.heap=(w3.alloc (zi #[zj a l c,zj a' l' c'] 26)).heap:=hsame.heap;have s4:w4.heap.size=w3.heap.size+1:=by rw[e4];simp
 have b0:Hid (LgW W w3.heap.size ((w4.alloc (zi #[za sz,za 0,za 1,za hd,za 0] 30)).alloc (zi #[] 35)) (QK sz) sz 0 1 hd 0 (zj a l c) (zj a' l' c') (zg (w3.heap.size+2) 0 0) []):=by
  obtain⟨e1,e2,e3⟩:=zU w4 (zi #[za sz,za 0,za 1,za hd,za 0] 30) (zi #[] 35);have cz:zr 0 0 w3 ((w4.alloc (zi #[za sz,za 0,za 1,za hd,za 0] 30)).alloc (zi #[] 35)):=((cD.trans (hsame.chg 0 0)).alloc _).alloc _;have hz:=cz.size;have h3:=bk.size;rw[s4] at e2;refine⟨(bk.trans cz).widen,h3,?_,(qK.upperL (qK.chg (qK.lower y s2) cz zk)),e2,[],[],?_,rfl,rfl,fun i hi=>absurd hi zn⟩
  ·rw[oU _ _ _ (by simp;omega),oU _ _ _ zk,e4];exact zt _ _
  ·have e5:(w4.alloc (zi #[za sz,za 0,za 1,za hd,za 0] 30)).heap.size=w3.heap.size+2:=by rw[World.size_alloc,s4]
   have:=nK (base:=W.heap.size) (e:=35) (size:=3) (w4.alloc (zi #[za sz,za 0,za 1,za hd,za 0] 30)) #[] 0 zk (by unfold maxLen;omega) zn;rw[e5] at this;exact this
 clear y L hsame e4 cU hr1 cE cD bk;go_wp2;generalize (w4.alloc (zi #[za sz,za 0,za 1,za hd,za 0] 30)).alloc (zi #[] 35)=w6 at*;clear dc s4 s2;generalize w3.heap.size=B at*;have dH:IntKind.i64.wrap (2+(sz:Int))=(sz:Int)+2:=by rw[mS];omega
 have dI:IntKind.i64.wrap ((sz:Int)+150)=(sz:Int)+150:=by rw[mS];omega
 go_loopw [8,9] (fun x8 x9 wr=>LgR W B sz x8 x9 wr) (fun _ x9 _=>30-(intOf x9).toNat)
 case atStart=>exact⟨⟨0,0,1,hd,0,1,_,_,_,_,_,rfl,⟨zk,zk⟩,iA aW bx,b0⟩⟩
 case round=>
  clear b0 bx;obtain⟨i,st,sq,hd,us,q0,F,d,v0,v1,ts,rfl,⟨dm,dG⟩,cg,hW⟩:=hrel.ex;have q:Hid (LI d sz F st sq hd us q0 ts):=cg;obtain⟨N,P,O,Q,S,R,rfl,rfl⟩:=hW.slices;have bA:Hid _:=hW;clear cg hW hrel;have L:=a3.out wr 2 6 zk zk (bA.view HV.1.2 aU);rw[show(((2:Nat):Int))=2 from rfl,show(((6:Nat):Int))=6 from rfl] at L;go_wp2_with fail;refine L.mono ?_;rintro e wq ⟨⟨r2,rfl,hr2,-⟩,hsame⟩;have dp:=hr2 zk
  have HW:Hid (LgW W B wq d sz st sq hd us (zj N P O) (zj Q S R) u8 ts):=bA.grow (hsame.chg 0 0);clear L hsame hr2 bA;by_cases dz:i<r2
  ·have cx:(i:Int)<(r2:Int):=zk;have dy:i<6:=zk;obtain⟨-,-,-,l2,-,-⟩:=HW.cl;have aT:code.length≤1048576:=by have:=Hn.out;omega
   have cZ:=q.sqb;go_wp2_with fail;refine(XN HV.2.1 aT (HW.view HV.1.1 aU) i zk (sq:Int) ((sz:Int)+2) ((sz:Int)+150) ⟨zk,zk⟩ ⟨zk,zk,zk⟩).mono ?_;rintro e wt ⟨th,tr,t,rfl,aA,aX,M,ct⟩;obtain⟨es,o1,o2⟩:=id aA;obtain⟨E,H,G,rfl⟩:=o1.slice;obtain⟨A,C,e6⟩:=o2.2.2.1.shape;obtain⟨u,bC⟩: ∃u,Hid (u=t.rV.length):=⟨_,rfl⟩;rw[←bC.out] at e6;subst e6;clear o1 o2 l2;have HT:Hid (LgT W B wt.heap.size (wt.alloc (zi #[za sq,zj E H G,zj A u C] 35)) d sz st sq hd us (zj N P O) (zj Q S R) u8 ts sq (zj E H G) (zj A u C) t):=by
    have h9:=HW.grow ct;have h8:=(zE h9.lb);have h7:=HW.ch.size;have cT:zr 0 0 wt (wt.alloc (zi #[za sq,zj E H G,zj A u C] 35)):=zr.al wt;exact⟨h9.grow cT,zt _ _,(aA.low h7).chg cT zk,h8⟩
   have I:Hid (t.seq=(sq:Int)∧ZQ ((sz:Int)+2) ((sz:Int)+155) t):=⟨aX,M.v,M.b,fun x hx=>⟨(M.h x hx).1,by have:=(M.h x hx).2;omega⟩,fun x hx=>⟨(M.r x hx).1,by have:=(M.r x hx).2;omega⟩⟩;clear aA aX M ct HW;go_upto_region 11 with fail;generalize wt.alloc (zi #[za sq,zj E H G,zj A u C] 35)=w7 at*;generalize wt.heap.size=T at*;have HX:Hid (LgT W B T w7.drew d sz st sq hd us (zj N P O) (zj Q S R) u8 ts sq (zj E H G) (zj A u C) t):=HT.grow (zr.drew (zr.refl 0 0 w7))
   refine hRg (fun w':World=>LgT W B T w' d sz st sq hd us (zj N P O) (zj Q S R) u8 ts sq (zj E H G) (zj A u C) t) ?_;clear HT;generalize w7.drew=X at*;have c9:=q.usb;have bT:IntKind.i64.wrap ((sz:Int)-(us:Int))=((sz-us:Nat):Int):=by rw[mS];omega
   refine hTk 0 (.agg #[za sq,zj E H G,zj A u C]) rfl (fun w' f=>by obtain⟨⟨U,V⟩,l0,l1,l2,l3,l4⟩:=f.lg.cl;obtain⟨⟨t0,t1,t2⟩,-⟩:=tri f.tb;go_simp) HX.out ?_;go_simp;refine hTk 2 (za sz) rfl (fun w' f=>zm) HX.out ?_;go_simp;refine hTk 3 (.pointer (some ⟨B+1,4,none⟩)) rfl (fun w' f=>zm) HX.out ?_;go_simp;refine hTk 4 (za us) rfl (fun w' f=>by obtain⟨⟨U,V⟩,l0,l1,l2,l3,l4⟩:=f.lg.cl;obtain⟨⟨t0,t1,t2⟩,-⟩:=tri f.tb;go_simp) HX.out ?_
   go_simp;refine hTk 5 (za ((sz-us:Nat):Int)) rfl (fun w' f=>zm) HX.out ?_;go_simp;refine hOn 1 rfl ?_;obtain⟨s,o,K⟩:=HX.tv I.1;refine zv 8 #[.agg #[za sq,zj E H G,zj A u C]] zq (Zv X zk nlR o s) ?_;rintro e X2 ⟨rfl,aM⟩;have J:Hid (LgT W B T X2 d sz st sq hd us (zj N P O) (zj Q S R) u8 ts sq (zj E H G) (zj A u C) t):=HX.grow aM;clear s o K aM HX;refine⟨_,rfl,J,?_⟩;obtain⟨tl,am⟩: ∃tl,Hid (tl=(TL t).length):=⟨_,rfl⟩
   rw[←am.out];obtain⟨sr,ak⟩: ∃sr:Nat,Hid (sr=sz-us):=⟨_,rfl⟩;rw[←ak.out];obtain⟨rm,aB⟩: ∃rm,decide ((tl:Int)≤(sr:Int))=rm:=⟨_,rfl⟩;have az:Hid (decide ((tl:Int)≤(sr:Int))=rm):=aB;have aV:decide (tl≤sr)=rm:=by rw[←aB];simp
   go_simp;refine hOn 6 rfl ?_;go_simp;refine⟨J,hDn ?_⟩;clear aB aV bT
   cases rm
   case true=>
    have aF:(TL t).length≤sz-us:=by have:=pt az.out;have:=am.out;have:=ak.out;omega
    have HY:Hid (LgT W B T X2.drew d sz st sq hd us (zj N P O) (zj Q S R) u8 ts sq (zj E H G) (zj A u C) t):=J.grow (zr.drew (zr.refl 0 0 X2));clear az am ak J;go_wp2;refine wRg 5 (fun w':World=>LgT W B T w' d sz st sq hd us (zj N P O) (zj Q S R) u8 ts sq (zj E H G) (zj A u C) t) ?_;generalize X2.drew=Y at*;refine wTk 0 (.agg #[zj N P O,zj Q S R]) rfl (fun w' f=>by obtain⟨⟨U,V⟩,l0,l1,l2,l3,l4⟩:=f.lg.cl;obtain⟨⟨t0,t1,t2⟩,-⟩:=tri f.tb;go_simp) HY.out ?_
    go_simp;refine wTk 1 (.agg #[za sz,za st,za sq,za hd,za us]) rfl (fun w' f=>by obtain⟨⟨U,V⟩,l0,l1,l2,l3,l4⟩:=f.lg.cl;obtain⟨⟨t0,t1,t2⟩,-⟩:=tri f.tb;go_simp) HY.out ?_;go_simp;refine wTk 2 (.agg #[za sq,zj E H G,zj A u C]) rfl (fun w' f=>by obtain⟨⟨U,V⟩,l0,l1,l2,l3,l4⟩:=f.lg.cl;obtain⟨⟨t0,t1,t2⟩,-⟩:=tri f.tb;go_simp) HY.out ?_;go_simp;refine wOn 3 rfl ?_;have ac:Mag Y:=HG.2.2.1.chg HY.lg.ch (Or.inr HG.2.2.2)
    obtain⟨s,o,K⟩:=HY.tv I.1;refine zv 10 #[.agg #[za sz,za st,za sq,za hd,za us],.agg #[za sq,zj E H G,zj A u C]] zq (Jk Y sz st sq hd us zk nlR o ac s) ?_;rintro e Y2 ⟨ov,rfl,⟨cs,bF,oo⟩,ae⟩;have aa:Hid _:=HY.grow ae;have ab:Hid (jN Y2 Y.heap.size Y2.heap.size ov (Zq sz st sq hd us t)):=oo.look (by have:=Vt sz st sq hd us o;omega);obtain⟨oa,on,oc,rfl⟩: ∃a n c,ov=zj a n c:=by obtain⟨a,c,e,_⟩:=ab.out;exact⟨a,_,c,e⟩
    refine⟨_,rfl,fun _=>aa.out,?_⟩;clear oo ae ac HY s o K;go_simp;refine wOn 4 rfl ?_;refine zv 9 #[.agg #[zj N P O,zj Q S R],zj oa on oc,za (-1)] zq (JD Y2 (-1) (qK.view aa.out.lg.od q.out.log.fits) ab.out nlR) ?_;rintro e Y3 ⟨bE,rfl,y,aN⟩;have ai:Hid _:=aa.grow aN;have a1:=aa.lg.ch.size;obtain⟨pa,pl,pc,pa',ax,pc',rfl⟩:=qK.agg y;refine⟨_,rfl,fun _=>ai.out,?_⟩;clear ab aa aN;go_simp;refine wOn 5 rfl ?_
    refine wsR [zj pa pl pc,zj pa' ax pc'] ai.lg.db ?_;intro Y4 au av;have ad:Hid _:=ai.setD y a1 nlR au av;refine⟨fun h=>absurd rfl h,?_⟩;clear au av y ai;go_simp;refine wDn ?_;obtain⟨-,l0,l1,l2,l3,l4⟩:=ad.lg.cl;obtain⟨⟨U,V,k2⟩,_⟩:=tri ad.tb;have bu:Mag Y4:=HG.2.2.1.chg ad.lg.ch (Or.inr HG.2.2.2);go_wp2_with fail;obtain⟨s,o,K⟩:=ad.tv I.1;refine(Yt Y4 sz st sq hd us zk nlR o bu s).mono ?_;rintro e Y5 ⟨rfl,aO⟩
    have ay:Hid _:=ad.grow aO;clear l0 l1 l2 l3 l4 U V k2 s o K bu aO ad;obtain⟨F',st',hd',us',a0,ar,aY,-⟩:=q.app I.2 I.1 aF;have aE:Hid (LI _ sz F' st' (sq+1) hd' us' a0 (ts++ [t])):=ar;rw[aY];clear ar aY;generalize doD d (Zq sz st sq hd us t) (-1)=d' at*;obtain⟨sq1,br⟩: ∃sq1,Hid (sq1=sq+1):=⟨_,rfl⟩;rw[←br.out] at aE⊢;have hlbb:=ay.lg.lb;go_upto_region 14 with(refine wpList_store_row rfl 30 (.tmp 7) (.tmp 69) rfl rfl (B+1) rfl [za sz,za (st':Int),za sq1,za (hd':Int),za (us':Int)] [za sz,za st,za sq,za hd,za us] 30 rfl hlbb rfl zl (by simp[Value.oneCell']) ?_;intro Y6 aQ aR)
    have aj:Hid (LgT W B T Y6 d' sz st' sq1 hd' us' (zj pa pl pc) (zj pa' ax pc') u8 ts sq (zj E H G) (zj A u C) t):=ay.setL aQ aR;clear hlbb aQ aR ay;obtain⟨⟨U,V,k2⟩,_⟩:=tri aj.tb;obtain⟨hs,rs,hrow⟩:=aj.lg.tx;have hs6:=aj.lg.ch.size;have how:=aj.ow;have hts:ts.length≤90000:=by
     by_cases hz:st=0
     ·rw[(q.out.z hz).2];simp
     ·have:=(q.n hz).2.2;omega
    obtain⟨ha,hc9,rfl,-⟩:=hrow.at;obtain⟨tn2,aL⟩: ∃n,Hid (n=ts.length):=⟨_,rfl⟩;rw[←aL.out] at hrow⊢;have bB:Hid ((⟨(sq:Int),t.homes,t.rV⟩:Tx)=t):=by show _=_;rw[←I.out.1]
    go_upto_region 9 with(refine Ql (t:=⟨(sq:Int),t.homes,t.rV⟩) rfl (.tmp 70) (.tmp 72) rfl W.heap.size (zj ha tn2 hc9) ts hs rs rfl hrow hs6 rfl hts ⟨_,_,_,rfl⟩ ⟨_,_,_,rfl⟩ how ?_;intro g6 cN w6 aI c6 bm);rw[bB.out] at aI;have cA:zr 0 0 Y6 (Y6.alloc (zi #[za sq,zj E H G,zj A u C] 35)):=zr.al Y6;have sA:=cA.size;have sB:=c6.size;have HZ:Hid _:=aj.lg.other ⟨_,_,aI⟩ ((cA.widen).trans c6) bm;have dd:IntKind.i64.wrap ((i:Int)+1)=((i+1:Nat):Int):=by rw[mS];omega
    clear aI cA c6 bm hrow how U V k2;go_wp2;go_roundw
    case rel=>exact⟨⟨i+1,st',sq1,hd',us',a0,F',d',_,_,ts++ [t],rfl,⟨zk,by have:=br.out;omega⟩,aE,HZ⟩⟩
    case measure=>simp[intOf];omega
   case false=>
    have HY:Hid (LgT W B T X2.drew d sz st sq hd us (zj N P O) (zj Q S R) u8 ts sq (zj E H G) (zj A u C) t):=J.grow (zr.drew (zr.refl 0 0 X2));clear az am ak J;go_wp2;refine wRg 4 (fun w':World=>LgT W B T w' d sz st sq hd us (zj N P O) (zj Q S R) u8 ts sq (zj E H G) (zj A u C) t) ?_;generalize X2.drew=Y at*;refine wTk 0 (.agg #[zj N P O,zj Q S R]) rfl (fun w' f=>by obtain⟨⟨U,V⟩,l0,l1,l2,l3,l4⟩:=f.lg.cl;obtain⟨⟨t0,t1,t2⟩,-⟩:=tri f.tb;go_simp) HY.out ?_
    go_simp;refine wTk 1 (.agg #[za sz,za st,za sq,za hd,za us]) rfl (fun w' f=>by obtain⟨⟨U,V⟩,l0,l1,l2,l3,l4⟩:=f.lg.cl;obtain⟨⟨t0,t1,t2⟩,-⟩:=tri f.tb;go_simp) HY.out ?_;go_simp;refine wOn 2 rfl ?_;have ac:Mag Y:=HG.2.2.1.chg HY.lg.ch (Or.inr HG.2.2.2);refine zv 12 #[.agg #[za sz,za st,za sq,za hd,za us]] zq (VJ Y sz st sq hd us ac.m0 ac.m1 ac.m2 ac.m3) ?_;rintro e Y2 ⟨ov,rfl,⟨cs,bF,oo⟩,ae⟩;have aa:Hid _:=HY.grow ae
    have ab:Hid (jN Y2 Y.heap.size Y2.heap.size ov (Jt sz st sq hd us)):=oo.look (gh _ _ _ _ _);obtain⟨oa,on,oc,rfl⟩: ∃a n c,ov=zj a n c:=by obtain⟨a,c,e,_⟩:=ab.out;exact⟨a,_,c,e⟩
    refine⟨_,rfl,fun _=>aa.out,?_⟩;clear oo ae ac HY;go_simp;refine wOn 3 rfl ?_;refine zv 9 #[.agg #[zj N P O,zj Q S R],zj oa on oc,za (-1)] zq (JD Y2 (-1) (qK.view aa.out.lg.od q.out.log.fits) ab.out nlR) ?_;rintro e Y3 ⟨bE,rfl,y,aN⟩;have ai:Hid _:=aa.grow aN;have a1:=aa.lg.ch.size;obtain⟨pa,pl,pc,pa',ax,pc',rfl⟩:=qK.agg y;refine⟨_,rfl,fun _=>ai.out,?_⟩;clear ab aa aN;go_simp;refine wOn 4 rfl ?_
    refine wsR [zj pa pl pc,zj pa' ax pc'] ai.lg.db ?_;intro Y4 au av;have ad:Hid _:=ai.setD y a1 nlR au av;refine⟨fun h=>absurd rfl h,?_⟩;clear au av y ai;go_simp;refine wDn ?_;obtain⟨-,l0,l1,l2,l3,l4⟩:=ad.lg.cl;go_wp2_with fail;refine(Yu Y4 sz st sq hd us).mono ?_;rintro e Y5 ⟨rfl,aO⟩;have ay:Hid _:=ad.grow aO;clear l0 l1 l2 l3 l4 aO ad;obtain⟨st',us',a0,ar,aY⟩:=q.tail;have aE:Hid (LI _ sz F st' sq hd us' a0 []):=ar
    rw[aY];clear ar aY;generalize doD d (Jt sz st sq hd us) (-1)=d' at*;have hlbb:=ay.lg.lb;go_upto_region 17 with(refine wpList_store_row rfl 30 (.tmp 7) (.tmp 79) rfl rfl (B+1) rfl [za sz,za (st':Int),za sq,za hd,za (us':Int)] [za sz,za st,za sq,za hd,za us] 30 rfl hlbb rfl zl (by simp[Value.oneCell']) ?_;intro Y6 aQ aR);have aj:Hid (LgT W B T Y6 d' sz st' sq hd us' (zj pa pl pc) (zj pa' ax pc') u8 ts sq (zj E H G) (zj A u C) t):=ay.setL aQ aR
    clear hlbb aQ aR ay;have HZ:Hid (LgW W B (Y6.alloc (zi #[] 35)) d' sz st' sq hd us' (zj pa pl pc) (zj pa' ax pc') (zg Y6.heap.size 0 0) []):=by
     have c7:zr 0 0 Y6 (Y6.alloc (zi #[] 35)):=zr.al Y6;have h7:=aj.grow c7;have hs6:=aj.lg.ch.size;have s7:=c7.size;exact h7.lg.other ⟨[],[],nK (base:=W.heap.size) (e:=35) (size:=3) Y6 #[] 0 zk (by unfold maxLen;omega) zn,rfl,rfl,fun i hi=>absurd hi zn⟩ (zr.refl _ _ _) (fun _ _ _ _ hh=>hh)
    have dd:IntKind.i64.wrap ((i:Int)+1)=((i+1:Nat):Int):=by rw[mS];omega
    clear aj;go_wp2;go_roundw
    case rel=>exact⟨⟨i+1,st',sq,hd,us',a0,F,d',_,_,[],rfl,⟨zk,zk⟩,aE,HZ⟩⟩
    case measure=>simp[intOf];omega
  ·have cx: ¬(i:Int)<(r2:Int):=zk;obtain⟨-,-,-,l2,-,-⟩:=HW.cl;have aT:code.length≤1048576:=by have:=Hn.out;omega
   have cZ:=q.sqb;have bR:=XN HV.2.1 aT (HW.view HV.1.1 aU) 9 zk (sq:Int) ((sz:Int)+2) ((sz:Int)+150) ⟨zk,zk⟩ ⟨zk,zk,zk⟩;rw[show(((9:Nat):Int))=9 from rfl] at bR;go_wp2_with fail;refine bR.mono ?_;rintro e wt ⟨th,tr,t,rfl,aA,aX,M,ct⟩;obtain⟨es,o1,o2⟩:=id aA;obtain⟨E,H,G,rfl⟩:=o1.slice;obtain⟨A,C,e6⟩:=o2.2.2.1.shape;obtain⟨u,bC⟩: ∃u,Hid (u=t.rV.length):=⟨_,rfl⟩;rw[←bC.out] at e6;subst e6;clear o1 o2 l2 bR
   have HT:Hid (LgT W B wt.heap.size (wt.alloc (zi #[za sq,zj E H G,zj A u C] 35)) d sz st sq hd us (zj N P O) (zj Q S R) u8 ts sq (zj E H G) (zj A u C) t):=by
    have h9:=HW.grow ct;have h8:=(zE h9.lb);have h7:=HW.ch.size;have cT:zr 0 0 wt (wt.alloc (zi #[za sq,zj E H G,zj A u C] 35)):=zr.al wt;exact⟨h9.grow cT,zt _ _,(aA.low h7).chg cT zk,h8⟩
   have I:Hid (t.seq=(sq:Int)∧ZQ ((sz:Int)+2) ((sz:Int)+155) t):=⟨aX,M.v,M.b,fun x hx=>⟨(M.h x hx).1,by have:=(M.h x hx).2;omega⟩,fun x hx=>⟨(M.r x hx).1,by have:=(M.r x hx).2;omega⟩⟩;clear aA aX M ct HW;go_upto_region 19 with fail;generalize wt.alloc (zi #[za sq,zj E H G,zj A u C] 35)=w7 at*;generalize wt.heap.size=T at*;have HX:Hid (LgT W B T w7.drew d sz st sq hd us (zj N P O) (zj Q S R) u8 ts sq (zj E H G) (zj A u C) t):=HT.grow (zr.drew (zr.refl 0 0 w7))
   refine hRg (fun w':World=>LgT W B T w' d sz st sq hd us (zj N P O) (zj Q S R) u8 ts sq (zj E H G) (zj A u C) t) ?_;clear HT;generalize w7.drew=X at*;have c9:=q.usb;have bT:IntKind.i64.wrap ((sz:Int)-(us:Int))=((sz-us:Nat):Int):=by rw[mS];omega
   refine hTk 0 (.agg #[za sq,zj E H G,zj A u C]) rfl (fun w' f=>by obtain⟨⟨U,V⟩,l0,l1,l2,l3,l4⟩:=f.lg.cl;obtain⟨⟨t0,t1,t2⟩,-⟩:=tri f.tb;go_simp) HX.out ?_;go_simp;refine hTk 2 (za sz) rfl (fun w' f=>zm) HX.out ?_;go_simp;refine hTk 3 (.pointer (some ⟨B+1,4,none⟩)) rfl (fun w' f=>zm) HX.out ?_;go_simp;refine hTk 4 (za us) rfl (fun w' f=>by obtain⟨⟨U,V⟩,l0,l1,l2,l3,l4⟩:=f.lg.cl;obtain⟨⟨t0,t1,t2⟩,-⟩:=tri f.tb;go_simp) HX.out ?_
   go_simp;refine hTk 5 (za ((sz-us:Nat):Int)) rfl (fun w' f=>zm) HX.out ?_;go_simp;refine hOn 1 rfl ?_;obtain⟨s,o,K⟩:=HX.tv I.1;refine zv 8 #[.agg #[za sq,zj E H G,zj A u C]] zq (Zv X zk nlR o s) ?_;rintro e X2 ⟨rfl,aM⟩;have J:Hid (LgT W B T X2 d sz st sq hd us (zj N P O) (zj Q S R) u8 ts sq (zj E H G) (zj A u C) t):=HX.grow aM;clear s o K aM HX;refine⟨_,rfl,J,?_⟩;obtain⟨tl,am⟩: ∃tl,Hid (tl=(TL t).length):=⟨_,rfl⟩
   rw[←am.out];obtain⟨sr,ak⟩: ∃sr:Nat,Hid (sr=sz-us):=⟨_,rfl⟩;rw[←ak.out];obtain⟨rm,aB⟩: ∃rm,decide ((sr:Int)<(tl:Int))=rm:=⟨_,rfl⟩;have az:Hid (decide ((sr:Int)<(tl:Int))=rm):=aB;have aV:decide (sr<tl)=rm:=by rw[←aB];simp
   go_simp;refine hOn 6 rfl ?_;go_simp;refine⟨J,hDn ?_⟩;clear aB aV bT;have dF:=q.qb;have dl:=q.hdb;have bt:Hid _:=q.ok;have hts:ts.length≤900:=by
    by_cases hz:st=0
    ·rw[(q.out.z hz).2];simp
    ·have:=(q.n hz).2.2;omega
   cases rm
   case true=>
    have bz:Hid (∀w,LgW W B w d sz st sq hd us (zj N P O) (zj Q S R) u8 ts→Calls Tryz.prog 14 #[.agg #[zj N P O,zj Q S R]] w fun e w'=> ∃tv,e= .returned (.agg #[za 0,za sz,za st,za q0,tv])∧Vr w' w.heap.size tv ts∧zr 0 0 w w'):=fun w hw=>by
     refine Uk w (qK.view hw.od q.log.fits) q.log ?_ zk (HG.1.chg hw.ch (Or.inr HG.2.2.2)) (HG.2.1.chg hw.ch (Or.inr HG.2.2.2)) (HG.2.2.1.chg hw.ch (Or.inr HG.2.2.2)) (nz HG.2.2.2 hw.ch.size);by_cases hz:st=0
     ·exact Or.inl ⟨hz,(q.z hz).2⟩
     ·refine Or.inr ⟨hz,?_⟩;have:=q.scan hz;rwa [show(sz:Int)+155=((sz+156:Nat):Int)-1 by omega] at this
    have a7:Hid _:=J.lg;clear J az am ak I;obtain⟨⟨U,V⟩,-⟩:=a7.cl;have aC:=bz.out X2 a7;go_wp2_with fail;clear U V;refine aC.mono ?_;rintro e X3 ⟨tv,rfl,-,c3⟩;have a8:Hid (LgW W B X3 d sz st sq hd us (zj N P O) (zj Q S R) u8 ts):=a7.grow c3;have cR:=gZ X3 0 (sz:Int) (st:Int) (q0:Int) tv;obtain⟨⟨U,V⟩,-⟩:=a8.cl;have aC:=bz.out X3 a8;clear a7 c3;go_wp2_with fail;clear U V cR;refine aC.mono ?_;rintro e X4 ⟨o,rfl,aD,c4⟩
    have b2:Hid (LgW W B X4 d sz st sq hd us (zj N P O) (zj Q S R) u8 ts):=a8.grow c4;obtain⟨fa,fl,fc,rfl⟩: ∃a l c,o=zj a l c:=by obtain⟨_,_,h⟩:=aD;obtain⟨a,c,e,_⟩:=h.at;exact⟨a,_,c,e⟩
    have cS:=hH X4 0 (sz:Int) (st:Int) (q0:Int) fa fl fc;have aw:=Jl b2.tx aD (fun t ht=>(q.ok t ht).v);clear a8 c4 aC bz aD;go_wp2_with fail;refine aw.mono ?_;rintro e X5 ⟨rfl,c5⟩;have aS:zr 0 0 W X5:=(zr.refl 0 0 W).step (b2.grow c5).ch (Or.inr (Or.inl nlR));clear cS aw c5;go_wp2;go_ret;exact⟨rfl,aS⟩
   case false=>
    have aF:(TL t).length≤sz-us:=by have:=of_decide_eq_false az.out;have:=am.out;have:=ak.out;omega
    clear az am ak;obtain⟨-,l0,l1,l2,l3,l4⟩:=J.lg.cl;obtain⟨⟨U,V,k2⟩,_⟩:=tri J.tb;have ac:Mag X2:=HG.2.2.1.chg J.lg.ch (Or.inr HG.2.2.2);obtain⟨s,o,K⟩:=J.tv I.1;have aP:=Jk X2 sz st sq hd us zk nlR o ac s;go_wp2_with fail;refine aP.mono ?_;rintro e Y ⟨ov,rfl,⟨cs,bF,oo⟩,cY⟩;have HY:Hid (LgT W B T Y d sz st sq hd us (zj N P O) (zj Q S R) u8 ts sq (zj E H G) (zj A u C) t):=J.grow cY;have ab:Hid (jN Y X2.heap.size Y.heap.size ov (Zq sz st sq hd us t)):=oo.look (by have:=Vt sz st sq hd us o;omega)
    obtain⟨oa,oc,rfl⟩: ∃a c,ov=zj a (Zq sz st sq hd us t).length c:=by obtain⟨a,c,e,_⟩:=ab.out;exact⟨a,c,e⟩
    obtain⟨on,bi⟩: ∃on,Hid (on=(Zq sz st sq hd us t).length):=⟨_,rfl⟩;have dD:1≤on∧on≤4000:=by rw[bi.out];exact q.appLen I.2.v I.1 aF
    rw[←bi.out] at ab⊢;clear aP oo cY ac s o K l0 l1 l2 l3 l4 U V k2 J;obtain⟨-,l0,l1,l2,l3,l4⟩:=HY.lg.cl;obtain⟨⟨U,V,k2⟩,_⟩:=tri HY.tb;obtain⟨s,o,K⟩:=HY.tv I.1;have aP:=Kh Y sz st sq hd us zk nlR o s;have cy:((on:Int)==0)=false:=by simp;omega
    go_wp2_with fail;refine aP.mono ?_;rintro e Y2 ⟨df,rfl,⟨cs,bF,oo⟩,ae⟩;have aa:Hid (LgT W B T Y2 d sz st sq hd us (zj N P O) (zj Q S R) u8 ts sq (zj E H G) (zj A u C) t):=HY.grow ae;have bo:Hid (jN Y2 X2.heap.size Y.heap.size (zj oa on oc) (Zq sz st sq hd us t)):=ab.chg ae zk;obtain⟨dK,dL,rfl⟩: ∃a c,df=zj a on c:=by obtain⟨a,c,e,_⟩:=oo.look (by have:=Vt sz st sq hd us o;omega);rw[←bi.out] at e;exact⟨a,c,e⟩
    have cj:=ae.size;clear aP oo ae s o K l0 l1 l2 l3 l4 U V k2 HY ab;have cB:((on:Int) !=(on:Int))=false:=zn;go_upto_region 24 with fail;clear cy cB;have HY:Hid (LgT W B T Y2.drew d sz st sq hd us (zj N P O) (zj Q S R) u8 ts sq (zj E H G) (zj A u C) t):=aa.grow (zr.drew (zr.refl 0 0 Y2));have bp:Hid (jN Y2.drew X2.heap.size Y.heap.size (zj oa on oc) (Zq sz st sq hd us t)):=bo.chg (zr.drew (zr.refl 0 0 Y2)) zk
    have ci:Y.heap.size≤Y2.drew.heap.size:=cj;refine wRg 11 (fun w':World=>LgT W B T w' d sz st sq hd us (zj N P O) (zj Q S R) u8 ts sq (zj E H G) (zj A u C) t) ?_;clear aa bo cj;generalize Y2.drew=Z at*;have dJ:IntKind.i64.wrap ((on:Int)+1)=((on+1:Nat):Int):=by rw[mS];omega
    refine wTk 0 (.agg #[zj N P O,zj Q S R]) rfl (fun w' f=>by obtain⟨⟨U,V⟩,l0,l1,l2,l3,l4⟩:=f.lg.cl;obtain⟨⟨t0,t1,t2⟩,-⟩:=tri f.tb;go_simp) HY.out ?_;go_simp;refine wTk 1 (zj oa on oc) rfl (fun w' f=>zm) HY.out ?_;go_simp;refine wTk 2 (zj ma m mc) rfl (fun w' f=>zm) HY.out ?_;go_simp;refine wTk 3 (zj oa on oc) rfl (fun w' f=>zm) HY.out ?_;go_simp;refine wTk 4 (za on) rfl (fun w' f=>zm) HY.out ?_;go_simp
    refine wTk 5 (za ((on+1:Nat):Int)) rfl (fun w' f=>zm) HY.out ?_;go_simp;refine wTk 8 (zj ma m mc) rfl (fun w' f=>zm) HY.out ?_;go_simp;have L:=a3.out Z 3 (on+1) zk zk (HY.lg.view HV.1.2 aU);rw[show(((3:Nat):Int))=3 from rfl] at L;refine wOn 6 rfl ?_;refine zv 4 #[zj ma m mc,za 3,za ((on+1:Nat):Int)] zq L ?_;rintro e Z1 ⟨⟨r3,rfl,hr3,-⟩,hsame⟩;have cG:=hr3 zk;have ba:Hid (LgT W B T Z1 d sz st sq hd us (zj N P O) (zj Q S R) u8 ts sq (zj E H G) (zj A u C) t):=HY.grow (hsame.chg 0 0)
    have bq:Hid (jN Z1 X2.heap.size Y.heap.size (zj oa on oc) (Zq sz st sq hd us t)):=bp.chg (hsame.chg 0 0) zk;have ck:Y.heap.size≤Z1.heap.size:=nz ci (hsame.chg 0 0).size;clear L hsame hr3 HY bp ci;refine⟨_,rfl,fun _=>ba.out,?_⟩;go_simp;refine wOn 7 rfl ?_;refine zv 9 #[.agg #[zj N P O,zj Q S R],zj oa on oc,za r3] zq (JD Z1 (r3:Int) (qK.view ba.out.lg.od q.out.log.fits) bq.out ck) ?_;rintro e Z2 ⟨bE,rfl,y,cb⟩
    have bd:Hid (LgT W B T Z2 d sz st sq hd us (zj N P O) (zj Q S R) u8 ts sq (zj E H G) (zj A u C) t):=ba.grow cb;have bZ:Hid (Zw Z2 Z1.heap.size Z2.heap.size bE (doD d (Zq sz st sq hd us t) (r3:Int))):=qK.view y (gV _ _ _);obtain⟨qa,ql,qc,dg,di,dh,rfl⟩:=qK.agg y;clear y cb ba bq ck;refine⟨_,rfl,fun _=>bd.out,?_⟩;go_simp;have bM:=Ni Z2 4 zk HV.2.2 (bd.lg.view HV.1.2 aU) (by have:=Hm.out;omega);rw[show(((4:Nat):Int))=4 from rfl] at bM
    refine wOn 9 rfl ?_;refine zv 18 #[zj ma m mc,za 4] zq bM ?_;rintro e Z3 ⟨kv,ks,rfl,cV,bH,bD⟩;have be:Hid (LgT W B T Z3 d sz st sq hd us (zj N P O) (zj Q S R) u8 ts sq (zj E H G) (zj A u C) t):=bd.grow bD;have bl:=K6 Z3 ks (bZ.chg bD zk) (bH.seen zk) nlR;obtain⟨ka,kl,kc,rfl⟩:=zF bH;clear bM bH bD bd bZ;refine⟨_,rfl,fun _=>be.out,?_⟩;go_simp;refine wOn 10 rfl ?_;refine zv 17 #[.agg #[zj qa ql qc,zj dg di dh],zj ka kl kc] zq bl ?_
    rintro e Z4 ⟨du,rfl,y,cd⟩;have bf:Hid (LgT W B T Z4 d sz st sq hd us (zj N P O) (zj Q S R) u8 ts sq (zj E H G) (zj A u C) t):=be.grow cd;have a1:=be.lg.ch.size;obtain⟨pa,pl,pc,pa',ax,pc',rfl⟩:=qK.agg y;clear bl cd be;refine⟨_,rfl,fun _=>bf.out,?_⟩;go_simp;refine wOn 11 rfl ?_;refine wsR [zj pa pl pc,zj pa' ax pc'] bf.lg.db ?_;intro Z5 au av;have ao:Hid _:=bf.setD y a1 nlR au av;refine⟨fun h=>absurd rfl h,?_⟩
    clear au av y bf;go_simp;refine wDn ?_;obtain⟨D,hD⟩: ∃D,D=Qb (doD d (Zq sz st sq hd us t) (r3:Int)) ks:=⟨_,rfl⟩;obtain⟨st',q',F',tl,ys,f1,f2,f3,f4,f5,f6,f7⟩:=q.found I.2 I.1 aF r3 (by rw[←bi.out];omega) ks zk hD;rw[←hD] at ao;have ag:Hid (qF D (sz+156) sz F' st' q'):=f1;have an:Hid _:=And.intro f3 (And.intro f4 (And.intro f5 (And.intro f6 f7)));clear hD f1 f3 f4 f5 f6 f7;have cr:=ag.dR;obtain⟨g,cap,dM,dN,e1,e2⟩:=ao.lg.od.at0 zk ag.pN
    simp only[ns] at e1 e2;obtain⟨rfl,bG,rfl⟩:=e1;obtain⟨rfl,rfl,rfl⟩:=e2;have aG:Hid (pl=D.dR.length):=bG;have ap:Hid (pl=64*(sz+156)):=bG.trans cr;clear bG cr;have a4:Hid (∀w (x:Value) (cM:List Tx),LgW W B w D sz st sq hd us (zg g pl pc) (zj pa' 0 pc') x cM→zC w W.heap.size w.heap.size .u8 (zg g pl pc) D.dR∧Zw w W.heap.size w.heap.size (.agg #[zg g pl pc,zj pa' 0 pc']) D):=fun w x cM hw=>by
     have h:=qK.view hw.od ag.fits;obtain⟨dv,pv,e,h2,-⟩:=id h;simp only[sk,td,pF] at e;exact⟨e.1▸h2,h⟩
    obtain⟨s,o,K⟩:=ao.tv I.1;have bK:=VR Z5 (g:=g) (cap:=pc) (pa:=pa') (pc:=pc') (by rw[←aG.out];exact(a4 Z5 _ _ ao.lg).2) ag zk s nlR o K;rw[←aG.out] at bK;have da:IntKind.i64.wrap ((sz:Int)+156)=(sz:Int)+156:=by rw[mS];omega
    have bn:IntKind.i64.wrap (((sz:Int)+156)*64)=((sz:Int)+156)*64:=by rw[mS];omega
    have cX:((pl:Int) !=((sz:Int)+156)*64)=false:=by have:=ap.out;simp;omega
    obtain⟨⟨U,V⟩,-⟩:=ao.lg.cl;obtain⟨⟨t0,t1,t2⟩,-⟩:=tri ao.tb;clear s o K cV cG q;go_wp2_with fail;clear U V t0 t1 t2 da bn cX;refine bK.mono ?_;rintro e V1 ⟨fb,uu,rfl,bw,cu,b7⟩;have aK:Hid (LgT W B T V1 D sz st sq hd us (zg g pl pc) (zj pa' 0 pc') u8 ts sq (zj E H G) (zj A u C) t):=ao.grow b7;clear bK b7 ao
    cases fb
    case true=>
     have aS:zr 0 0 W V1:=(zr.refl 0 0 W).step aK.lg.ch (Or.inr (Or.inl nlR));go_wp2;go_ret;exact⟨rfl,aS⟩
    have aJ:Hid _:=ku bt.out an.out.2.1 an.out.2.2.1 an.out.2.2.2.1 an.out.2.2.2.2 (fun h=>by have:=bw h;rwa [show((sz+156:Nat):Int)-1=(sz:Int)+155 by omega] at this) (cu rfl);clear bw cu;obtain⟨s,o,K⟩:=aK.tv I.1;have cI:=qq V1 zk nlR o s;obtain⟨⟨t0,t1,t2⟩,-⟩:=tri aK.tb;go_wp2_with fail;clear t0 t1 t2;refine cI.mono ?_;rintro e V2 ⟨bg,bc,rfl,oB,b8⟩;have a6:Hid (LgT W B T V2 D sz st sq hd us (zg g pl pc) (zj pa' 0 pc') u8 ts sq (zj E H G) (zj A u C) t):=aK.grow b8
    have af:Hid ((TL t).flatten.length=64*(TL t).length∧(TL t).length≤257):=⟨Jz (Ze o).2,(Ze o).1⟩;have b3:Hid (∀b∈TL t,b.length=64∧Byt b):=fun b hb=>⟨(Ze o).2 b hb,ET o b hb⟩;have HB:Hid (zC V2 V1.heap.size V2.heap.size .u8 (zg bg (64*(TL t).length) bc) (TL t).flatten):=oB.seen (by have:=af.out;omega);obtain⟨tL',aq⟩: ∃n,Hid (n=(TL t).length):=⟨_,rfl⟩;obtain⟨bL,bh⟩: ∃n,Hid (n=64*tL'):=⟨_,rfl⟩;rw[←aq.out] at HB af⊢
    rw[←bh.out] at HB af⊢;clear cI oB b8 s o K aK;obtain⟨⟨U,V⟩,-⟩:=a6.lg.cl;have bP:=Q1 V2 (a4 V2 _ _ a6.lg).1 1 (by have:=aG.out;have:=ap.out;omega) (by have:=aG.out;have:=ap.out;omega);rw[show(((1:Nat):Int))=1 from rfl] at bP;go_wp2_with fail;clear U V;refine bP.mono ?_;rintro e V3 ⟨v3,rfl,bS,hV⟩;subst V3;have bv:OkS (sz:Int) (q':Int) (st':Int):=by have h:=ag.sb;exact⟨h.2.1,h.2.2,zk,zk,h.1.1,h.1.2⟩
    have cq:=Em V2 bv (by have:=ag.sup;unfold blk at this;rw[←this];exact bS);obtain⟨ea,la,dt,rfl⟩: ∃a l c,v3=zj a l c:=by obtain⟨a,c,e,_⟩:=bS;exact⟨a,_,c,e⟩
    clear bP bS bv;go_wp2_with fail;refine cq.mono ?_;rintro e V3 ⟨rfl,b9⟩;have cJ:zr 0 0 V2 (V3.alloc (zi #[.bool true,za sz,za (st':Int),za (q':Int)] 55)):=b9.trans (zr.al V3);have b1:Hid (LgT W B T (V3.alloc (zi #[.bool true,za sz,za (st':Int),za (q':Int)] 55)) D sz st sq hd us (zg g pl pc) (zj pa' 0 pc') u8 ts sq (zj E H G) (zj A u C) t):=a6.grow cJ;have bX:Hid (zC (V3.alloc (zi #[.bool true,za sz,za (st':Int),za (q':Int)] 55)) V1.heap.size V2.heap.size .u8 (zg bg bL bc) (TL t).flatten):=HB.chg cJ zk
    obtain⟨⟨j0,j1,j2,j3⟩,-,-,-,-⟩:=qO (zt V3 (zi #[.bool true,za sz,za (st':Int),za (q':Int)] 55));clear cq b9 cJ a6 HB;go_upto_region 31 with fail;generalize V3.alloc (zi #[.bool true,za sz,za (st':Int),za (q':Int)] 55)=wJ at*;generalize V3.heap.size=JB at*;obtain⟨bW,cL⟩: ∃b,decide ((0:Int)<(st':Int))=b:=⟨_,rfl⟩;have aZ:decide (0<st')=bW:=by rw[←cL];simp
    have b4:Hid (bW=true↔st'≠0):=⟨fun h=>by have:=pt (aZ.trans h);omega,fun h=>by rw[←aZ];exact mR zk⟩;go_wp2;clear j0 j1 j2 j3;clear cL aZ;have dk:(bL:Int)/64=(tL':Int):=by have:=bh.out;omega
    have dr:tL'≤257:=af.2;go_loopw [15,16] (fun x15 x16 wr=>TnW D.dR sz hd st' t wJ x15 x16 wr) (fun _ x16 _=>tL'-(intOf x16).toNat)
    case atStart=>exact⟨⟨0,bW,⟨rfl,rfl⟩,mX _,⟨fun h=>⟨b4.1 h,fun j hj=>absurd hj (nW j)⟩,fun h=>b4.2 h.1⟩,zr.refl _ _ _⟩⟩
    case round=>
     obtain⟨k,wb,⟨rfl,rfl⟩,hk,bn,hc⟩:=hrel.ex;have bj:Hid _:=bn;have ah:Hid (LgT W B T wr D sz st sq hd us (zg g pl pc) (zj pa' 0 pc') u8 ts sq (zj E H G) (zj A u C) t):=b1.grow hc;have bY:Hid (zC wr V1.heap.size V2.heap.size .u8 (zg bg bL bc) (TL t).flatten):=bX.chg hc zk;rw[←aq.out] at hk;have Hc:Hid _:=hc;clear hrel bn hc;by_cases cw:k<tL'
     ·have dn:(k:Int)<(tL':Int):=zk;obtain⟨⟨U,V⟩,l0,l1,l2,l3,l4⟩:=ah.lg.cl;obtain⟨p,Hp⟩: ∃p:Nat,Hid (p=(hd-1+k) % sz+1):=⟨_,rfl⟩;have cC:=nF (hd-1+k) (show 0<sz by omega);have dE:p≤sz:=by rw[Hp.out];omega
      have m1:IntKind.i64.wrap ((hd:Int)-1)=((hd-1:Nat):Int):=by rw[mS];omega
      have m2:IntKind.i64.wrap (((hd-1:Nat):Int)+(k:Int))=((hd-1+k:Nat):Int):=by rw[mS];omega
      have m3:IntKind.i64.wrap ((((hd-1:Nat):Int)+(k:Int)) % (sz:Int)+1)=(p:Int):=by
       have e:(((hd-1:Nat):Int)+(k:Int)) % (sz:Int)=(((hd-1+k) % sz:Nat):Int):=rfl;rw[mS,e];have:=Hp.out;omega
      have m4:IntKind.i64.wrap (1+(p:Int))=((1+p:Nat):Int):=by rw[mS];omega
      have wk:IntKind.i64.wrap ((k:Int)+1)=((k+1:Nat):Int):=by rw[mS];omega
      have cm:blk D.dR (1+p)=(F' ((hd-1+k) % sz)).bs:=by rw[Hp.out,show 1+((hd-1+k) % sz+1)=2+(hd-1+k) % sz by omega];exact ag.out.at' _ cC
      have bI:blk (TL t).flatten k=(TL t).getD k []:=Es (fun b hb=>(b3 b hb).1) (by rw[←aq.out];exact cw);have a9:Hid (Byt (blk D.dR (1+p))∧Byt (blk (TL t).flatten k)):=by
       show _∧_;rw[cm,bI];exact⟨FB.byt (ag.ok _ cC),(b3 _ (by rw[mV,mZ (by rw[←aq.out];exact cw)];exact nj _)).2⟩
      have a5:Hid (∀b:Bool,(b=true↔ (wb=true∧blk D.dR (1+p)=blk (TL t).flatten k))→(b=true↔st'≠0∧ ∀j,j<k+1→blk D.dR (2+(hd-1+j) % sz)=(TL t).getD j [])):=fun b hb=>by
       rw[hb,bj.out,bI,Hp.out,show 1+((hd-1+k) % sz+1)=2+(hd-1+k) % sz by omega];refine⟨fun h=>⟨h.1.1,fun j hj=>?_⟩,fun h=>⟨⟨h.1,fun j hj=>h.2 j zk⟩,h.2 k zk⟩⟩;by_cases e:j=k
       ·rw[e];exact h.2
       ·exact h.1.2 j zk
      clear cm bI
      cases wb
      ·have HN:Hid _:=a5.out false zn;clear a5 a9;go_wp2;go_roundw
       case rel=>exact⟨⟨k+1,false,⟨rfl,rfl⟩,by rw[←aq.out];omega,HN,Hc⟩⟩
       case measure=>simp[intOf];omega
      ·have bN:=Q1 wr (a4 wr _ _ ah.lg).1 (1+p) (by have:=aG.out;have:=ap.out;omega) (by have:=aG.out;have:=ap.out;omega);have bO:=Q1 wr bY k (by have:=af.out;have:=bh.out;omega) (by have:=af.out;have:=bh.out;omega);change Calls _ _ _ _ fun e w'=> ∃v,e= .returned v∧zC wr _ _ .u8 v (blk D.dR (1+p))∧w'=wr at bN;change Calls _ _ _ _ fun e w'=> ∃v,e= .returned v∧zC wr _ _ .u8 v (blk (TL t).flatten k)∧w'=wr at bO
       go_wp2_with fail;clear U V l0 l1 l2 l3 l4;refine bN.mono ?_;rintro e a2 ⟨x1,rfl,bU,hw⟩;subst a2;obtain⟨dQ,dT,dO,rfl⟩: ∃a l c,x1=zj a l c:=by obtain⟨a,c,e,_⟩:=bU;exact⟨a,_,c,e⟩
       go_wp2_with fail;refine bO.mono ?_;rintro e a2 ⟨x2,rfl,bV,hw⟩;subst a2;obtain⟨dS,dU,dP,rfl⟩: ∃a l c,x2=zj a l c:=by obtain⟨a,c,e,_⟩:=bV;exact⟨a,_,c,e⟩
       have aw:=VT wr a9.1 a9.2 bU bV;have HN:=a5.out (decide (blk D.dR (1+p)=blk (TL t).flatten k)) zn;clear bN bO bU bV a5 a9;generalize decide (blk D.dR (1+p)=blk (TL t).flatten k)=bb at*;have HN:Hid _:=HN;go_wp2_with fail;refine aw.mono ?_;rintro e a2 ⟨rfl,hw⟩;subst a2;clear aw;go_wp2;go_roundw
       case rel=>exact⟨⟨k+1,bb,⟨rfl,rfl⟩,by rw[←aq.out];omega,HN,Hc⟩⟩
       case measure=>simp[intOf];omega
     ·obtain rfl:k=tL':=zk;have dB: ¬(k:Int)<(k:Int):=zk;have aH:Hid ((wb=true→ts++tl=ts++ [t])∧(wb=false→ts++tl=ts)):=⟨fun h=>aJ.1 (by have:=bj.1 h;rw[aq.out] at this;exact this),fun h=>aJ.2 (fun hP=>by have:=bj.2 (by rw[aq.out];exact hP);rw[this] at h;cases h)⟩;have cQ:=aH.out;clear bj cQ;go_upto_if 184 with fail;go_cut [8] (fun x wx=>TnX W B sz D st sq hd us (zg g pl pc) (zj pa' 0 pc') (ts++tl) x wx)
      case first=>
       cases wb
       ·have He:Hid (ts++tl=ts):=aH.2 rfl;clear aH;go_wp2;go_meet;exact⟨by rw[He.out];exact ah.lg⟩
       ·have He:Hid (ts++tl=ts++ [t]):=aH.1 rfl;clear aH;obtain⟨⟨U,V,k2⟩,_⟩:=tri ah.tb;obtain⟨hs,rs,hrow⟩:=ah.lg.tx;have hs6:=ah.lg.ch.size;have how:=ah.ow;obtain⟨ha,hc9,rfl,-⟩:=hrow.at;obtain⟨tn2,aL⟩: ∃n,Hid (n=ts.length):=⟨_,rfl⟩;rw[←aL.out] at hrow⊢;have bB:Hid ((⟨(sq:Int),t.homes,t.rV⟩:Tx)=t):=by show _=_;rw[←I.out.1]
        go_wp2_with (refine Ql (t:=⟨(sq:Int),t.homes,t.rV⟩) rfl (.tmp 185) (.tmp 187) rfl W.heap.size (zj ha tn2 hc9) ts hs rs rfl hrow hs6 rfl zk ⟨_,_,_,rfl⟩ ⟨_,_,_,rfl⟩ how ?_;intro g6 cN w6 aI c6 bm);rw[bB.out] at aI;go_meet;have cA:zr 0 0 wr (wr.alloc (zi #[za sq,zj E H G,zj A u C] 35)):=zr.al wr;have sA:=cA.size;have sB:=c6.size;exact⟨by rw[He.out];exact ah.lg.other ⟨_,_,aI⟩ ((cA.widen).trans c6) bm⟩
      case rest=>
       have HX:Hid (LgW W B wc D sz st sq hd us (zg g pl pc) (zj pa' 0 pc') u8 (ts++tl)):=hcut.lg;have cp:(ts++tl).length≤1000:=by
        rcases Classical.em (st'≠0∧ ∀i,i<(TL t).length→blk D.dR (2+(hd-1+i) % sz)=(TL t).getD i []) with h|h
        ·rw[aJ.out.1 h,mL,nJ];omega
        ·rw[aJ.out.2 h];omega
       clear hcut ah b1 bY bX aH aJ;have aC:=Uk wc (a4 wc _ _ HX).2 ag (ts:=ts++tl) (by
        by_cases hz:st'=0
        ·exact Or.inl ⟨hz,by rw[(an.out.2.1 hz).1,(an.out.2.1 hz).2];rfl⟩
        ·refine Or.inr ⟨hz,?_⟩;have:=(an.2.2.1 hz).1;rwa [show(sz:Int)+155=((sz+156:Nat):Int)-1 by omega] at this) zk (HG.out.1.chg HX.out.ch (Or.inr HG.out.2.2.2)) (HG.out.2.1.chg HX.out.ch (Or.inr HG.out.2.2.2)) (HG.out.2.2.1.chg HX.out.ch (Or.inr HG.out.2.2.2)) (nz HG.out.2.2.2 HX.out.ch.size)
       have cK: ∀x∈ts++tl,qy x:=fun x hx=>(nu.1 hx).elim (fun h=>(bt x h).v) (fun h=>(an.1 x h).v);obtain⟨⟨U,V⟩,-⟩:=HX.cl;go_wp2_with fail;clear U V;refine aC.mono ?_;rintro e U1 ⟨tv,rfl,aD,b5⟩;obtain⟨fa,fl,fc,rfl⟩: ∃a l c,tv=zj a l c:=by obtain⟨_,_,h⟩:=aD;obtain⟨a,c,e,_⟩:=h.at;exact⟨a,_,c,e⟩
       have cF:zr 0 0 U1 (U1.alloc (zi #[za 0,za sz,za (st':Int),za (q':Int),zj fa fl fc] 47)):=zr.al U1;have HU:Hid (LgW W B (U1.alloc (zi #[za 0,za sz,za (st':Int),za (q':Int),zj fa fl fc] 47)) D sz st sq hd us (zg g pl pc) (zj pa' 0 pc') u8 (ts++tl)):=(HX.grow b5).grow cF;have aw:=Jl HU.tx (by obtain⟨c0,dj,cP⟩:=aD;exact⟨c0,dj,cP.chg cF⟩:Vr _ wc.heap.size (zj fa fl fc) (ts++tl)) cK cp;have hf:=zt U1 (zi #[za 0,za sz,za (st':Int),za (q':Int),zj fa fl fc] 47)
       clear aC aD cF b5 HX;go_upto_region 40 with fail;generalize U1.alloc (zi #[za 0,za sz,za (st':Int),za (q':Int),zj fa fl fc] 47)=U2 at*;generalize U1.heap.size=ds at*;obtain⟨⟨o0,o1,o2,o3,o4⟩,-⟩:=Zz hf;clear hf;go_wp2_with fail;refine aw.mono ?_;rintro e U3 ⟨rfl,b6⟩;have aS:zr 0 0 W U3:=(zr.refl 0 0 W).step (HU.grow b6).ch (Or.inr (Or.inl nlR));clear aw b6 o0 o1 o2 o3 o4;go_wp2;go_ret;exact⟨rfl,aS⟩
end Go.Proofs.YthdeofoleiiibaaGreatDoor
