import Derived.Test.YthdeofoleiiibaaGreatDoorOpsNil
namespace Go.Proofs.YthdeofoleiiibaaGreatDoor
open Go.RowKit
set_option maxRecDepth 100000
set_option maxHeartbeats 16000000
variable {sz p k n:Nat}{st sq:Int}{w:World}
def zG (sz st sq hd:Int):List Opx:=if st=0 then jh (qz 106 108 111 103 1 sz sq hd) else []
def jl (sz hd:Int) (tl:List (List Int)) (k:Nat):List Opx:=(List.range k).map fun(i:Nat)=>(1,1+qi sz hd (i:Int),tl.getD i [])
def Zq (sz st sq hd us:Int) (t:Tx):List Opx:=if qv sz st sq hd us t=true then zG sz st sq hd++jl sz hd (TL t) (TL t).length++ [(2,0,[])] else []
theorem Ez (sz a:Int)(b:List (List Int))(k:Nat):jl sz a b (k+1)=jl sz a b k++ [(1,1+qi sz a (k:Int),b.getD k [])]:=by unfold jl;rw[pQ,m6];rfl
theorem qM (sz a:Int)(b:List (List Int))(k:Nat):(jl sz a b k).length=k:=by unfold jl;simp
theorem YD {sz hd n:Int}(h:16≤sz):1≤qi sz hd n∧qi sz hd n≤sz:=by
 have c:=pw (hd-1+n) (b:=sz) zk;have a:=px (hd-1+n) (b:=sz) zk;unfold qi;omega
def Vu (ys:List Int) (k:Nat):List Int:=(ys.drop (64*k)).take 64
theorem Ec {tl:List (List Int)}(h: ∀b∈tl,b.length=64)(a:k<tl.length):Vu tl.flatten k=tl.getD k []:=by
 unfold Vu
 induction tl generalizing k with
 |nil=>simp at a
 |cons b tl ih=>
  have d:=h b zn
  cases k with
  |zero=>simp[d]
  |succ k=>
   rw[oC,show 64*(k+1)=b.length+64*k by omega,←pK,sj,ih (fun c e=>h c (by simp[e])) (by simpa using a)];simp
theorem Qf (w:World){lo hi g cap:Nat}{ys:List Int}(h:zC w lo hi .u8 (.slice (some ⟨g,0,none⟩) ys.length cap) ys)(f:64*k+64≤ys.length:=by omega)(A:ys.length≤1048576:=by omega):
  Calls Tryz.prog 42 #[.slice (some ⟨g,0,none⟩) ys.length cap,.int .i64 k] w fun e w'=> ∃v,e= .returned v∧zu w' w.heap.size 5 v (Vu ys k)∧zr 0 0 w w':=by
 obtain⟨n,d⟩:ys.length≤cap∧cap≤cap:=by
  obtain⟨r,s,e,_,c,_⟩:=h;simp only[ns] at e;obtain⟨_,_,rfl⟩:=e;exact⟨c.1,mP _⟩
 have a:Hid (zC w lo hi .u8 (.slice (some ⟨g,0+64*k,none⟩) 64 (cap-64*k)) (Vu ys k)):=zC.part h f zk (cap-64*k);obtain⟨m,b⟩: ∃m:Nat,m=64*k:=⟨_,rfl⟩;have q:Hid (m=64*k):=b;rw[←b,ni] at a;rw[←b] at f;have l:=Zr w (by unfold Vu;rw[mW];omega) a;have t:(k:Int)*64=(m:Int):=zk;have u:((k:Int)+1)*64=(m:Int)+64:=zk;have x:IntKind.i64.wrap ((k:Int)+1)=(k:Int)+1:=by rw[mS];omega
 have y:IntKind.i64.wrap (m:Int)=(m:Int):=by rw[mS];omega
 have z:IntKind.i64.wrap ((m:Int)+64)=(m:Int)+64:=by rw[mS];omega
 have B:(0:Int)≤(m:Int)+64:=zk;have C:(m:Int)+64≤(cap:Int):=zk;have D: ¬cap=m:=zk;have E:(m:Int)≤max ((m:Int)+64) 0:=zk;have F:((m:Int)+64).toNat-m=64:=zk;generalize Vu ys k=p at*;generalize ys.length=L at*;clear b h d;go_enter Tryz.func42,Tryz.ntmps42;go_wp2_with fail;refine l.mono ?_;rintro e o ⟨v,rfl,i,c⟩;have j:Hid (zu o w.heap.size 5 v p):=i;clear i;go_wp2;go_ret;exact⟨_,rfl,j,c⟩
theorem Jm {b g c:Nat}(h:(Value.slice (some ⟨b,0,none⟩) n c).ownBlock=some g):b=g:=by cases h;rfl
theorem mr (A:Array Value)(g:A.size=6)(a b c d e f:Value):Instr.fill (fun i=>some (i*3,3)) A [(0,.agg #[a,b,c]),(1,.agg #[d,e,f])]=some #[a,b,c,d,e,f]:=by
 obtain⟨l⟩:=A
 match l,g with
 | [x,y,z,x',y',z'],_=>simp[Instr.fill,Value.cells]
def AsW (w:World) (sz st sq hd us s:Int) (hv rv:Value) (bf:Nat) (W:World):Prop:=(W.heap[w.heap.size]?=some (Zb 30 sz st sq hd us)∧W.heap[w.heap.size+1]?=some (.cells #[.int .i64 s,hv,rv] 35 (0,0)))∧W.heap[bf]?=some (.cells #[.int .i64 2,.int .i64 0,.slice none 0 0] 71 (0,0))∧zr 0 0 w W
theorem AsW.keep {sz hd us s:Int}{hv rv:Value}{bf:Nat}{A B:World}(h:AsW w sz st sq hd us s hv rv bf A)(a:zr 0 0 A B):AsW w sz st sq hd us s hv rv bf B:=
 ⟨⟨(a.bk _ (zE h.1.1)).trans h.1.1,(a.bk _ (zE h.1.2)).trans h.1.2⟩,(a.bk _ (zE h.2.1)).trans h.2.1,h.2.2.trans a⟩
theorem AsW.grown {sz hd us s:Int}{hv rv:Value}{bf:Nat}{A B:World}{v:Value}(h:AsW w sz st sq hd us s hv rv bf A)(b:A.grownBy B v.ownBlock)(a: ∀g,v.ownBlock=some g→w.heap.size+1<g∧g≠bf):AsW w sz st sq hd us s hv rv bf B:=
 ⟨⟨(b.block _ (zE h.1.1) (fun e=>by have:=a _ e.symm;omega)).trans h.1.1,(b.block _ (zE h.1.2) (fun e=>by have:=a _ e.symm;omega)).trans h.1.2⟩,(b.block _ (zE h.2.1) (fun e=>by have:=a _ e.symm;omega)).trans h.2.1,
  ⟨b.os.trans h.2.2.os,b.tape.trans h.2.2.tape,b.output.trans h.2.2.output,nz h.2.2.size b.size,fun k c d=>(b.block k (nE c h.2.2.size) (fun e=>by have:=a _ e.symm;omega)).trans (h.2.2.block k c d)⟩⟩
theorem ZE {ops:Array Oper}{rest:List Oper}{o:Oper}{a:Act}{Q:Exit→Act→World→Prop}(q:o.guard=none)(s x:Operand)
  (B:o.op= .call {callee:= .builtin .append,args:= #[s,x],argTypes:= #[39,39]}) (base N:Nat) (v t:Value) (os ts:List Opx) (c b:List Value) (f d:Nat→Value)
  (hs:a.eval s=v) (n:zL w base 71 5 v os c f) (C:a.eval x=t) (r:zL w N 71 5 t ts b d) (z:base≤N) (k:base≤w.heap.size)
  (h0:0<ts.length) (A:os.length+ts.length≤2097152)
  (p: ∀i j g,i<os.length→j<ts.length→(f i).ownBlock=some g→(d j).ownBlock≠some g)
  (h: ∀l w',Hid (∃g cap,l= .slice (some ⟨g,0,none⟩) (os.length+ts.length) cap)→Hid (∃e m,zL w' base 71 5 l (os++ts) e m)→Hid (w.grownBy w' v.ownBlock)→
   Hid (∀g,l.ownBlock=some g→v.ownBlock=some g∨w.heap.size≤g)→wpList Tryz.prog ops Q rest (a.put o.dst l) w'):wpList Tryz.prog ops Q (o::rest) a w:=
 oV q fun _ hK=>ju s x B base N v t os ts c b f d hs n C r z k h0 A p fun l w' h2 h3 u y=>hK _ _ (h l w' h2 ⟨_,_,h3⟩ u y)
theorem Kh (w:World){lo hi:Nat}{a:Value}{t:Tx}(sz st sq hd us:Int)(hl:Qa t≤1048576)(a5:hi≤w.heap.size)(ax: ∀x∈t.homes,Byt x.2)(h1:jy w lo hi a t):
  Calls Tryz.prog 16 #[Zl sz st sq hd us,a] w fun e w'=> ∃v,e= .returned v∧(∃cells dvs,zL w' w.heap.size 71 5 v (Zq sz st sq hd us t) cells dvs)∧zr 0 0 w w':=by
 have hT:=h1;obtain⟨hv,rv,rfl,p1,v1⟩:=h1;obtain⟨po,pcap,rfl⟩:=p1.slice;obtain⟨ao,cap,rfl⟩:=v1.slice;have HT:Hid (∀W,zr 0 0 w W→jy W lo hi (.agg #[.int .i64 t.seq,.slice po t.homes.length pcap,.slice ao t.rV.length cap]) t):=fun W hW=>hT.chg hW zk;have hA:zr 0 0 w (((w.alloc (Zb 30 sz st sq hd us)).alloc (.cells #[.int .i64 t.seq,.slice po t.homes.length pcap,.slice ao t.rV.length cap] 35)).alloc (.cells #[] 71)):=((zr.al w).alloc _).alloc _
 obtain⟨z,b0,b1,b2⟩:=JZ w (Zb 30 sz st sq hd us) (.cells #[.int .i64 t.seq,.slice po t.homes.length pcap,.slice ao t.rV.length cap] 35) (.cells #[] 71);have o0:=zL.nil ((w.alloc (Zb 30 sz st sq hd us)).alloc (.cells #[.int .i64 t.seq,.slice po t.homes.length pcap,.slice ao t.rV.length cap] 35)) w.heap.size (by simp;omega);have aN:((w.alloc (Zb 30 sz st sq hd us)).alloc (.cells #[.int .i64 t.seq,.slice po t.homes.length pcap,.slice ao t.rV.length cap] 35)).heap.size=w.heap.size+1+1:=zn
 rw[aN] at o0;have aU:Tryz.prog.follows .mixedOrders=true:=zl;obtain⟨aQ,aw⟩:=Ze ax;clear hT p1 v1 aN;have HN:Hid (∀W,zr 0 0 w W→Calls Tryz.prog 20 #[.agg #[.int .i64 t.seq,.slice po t.homes.length pcap,.slice ao t.rV.length cap]] W fun e w'=>Told W w' e (TL t)):=fun W hW=>qq W hl (by have:=hW.size;omega) ax (HT W hW);have aK: ∀W,zr 0 0 w W→Calls Tryz.prog 39 #[Zl sz st sq hd us,.agg #[.int .i64 t.seq,.slice po t.homes.length pcap,.slice ao t.rV.length cap]] W fun e w'=>e= .returned (.bool (qv sz st sq hd us t))∧zr 0 0 W w':=fun W hW=>UM W sz st sq hd us hl (by have:=hW.size;omega) ax (HT W hW)
 clear HT;go_enter Tryz.func16,Tryz.ntmps16;go_wp2_with fail;generalize ((w.alloc (Zb 30 sz st sq hd us)).alloc (.cells #[.int .i64 t.seq,.slice po t.homes.length pcap,.slice ao t.rV.length cap] 35)).alloc (.cells #[] 71)=w0 at*;refine(aK _ hA).mono ?_;rintro e w1 ⟨rfl,h1⟩;have aB:Hid (w1.heap[w.heap.size]?=some (Zb 30 sz st sq hd us)):=h1.bt b0;have aC:Hid (w1.heap[w.heap.size+1]?=some (.cells #[.int .i64 t.seq,.slice po t.homes.length pcap,.slice ao t.rV.length cap] 35 (0,0))):=h1.bt b1
 have am:Hid (zL w1 w.heap.size 71 5 (.slice (some ⟨w.heap.size+1+1,0,none⟩) 0 0) [] [] (fun _=> .slice none 0 0)):=o0.chg h1 (fun g f=>zk) (fun i g hi f=>zk);have HA:Hid (zr 0 0 w w1):=hA.trans h1;have hs:=h1.size;clear h1 b0 b1 b2 hA aK o0;by_cases s:qv sz st sq hd us t=true
 case neg=>
  have Ht:Hid (Zq sz st sq hd us t= []):=by show _=_;unfold Zq;rw[mN s]
  rw[pk] at s;rw[s];clear s;go_wp2;go_ret;exact⟨_,rfl,by rw[Ht.out];exact⟨_,_,am⟩,HA⟩
 obtain⟨aJ,aX,aR,ag,aT⟩:=Xl s;have Ht:Hid (Zq sz st sq hd us t=zG sz st sq hd++jl sz hd (TL t) (TL t).length++ [(2,0,[])]):=by show _=_;unfold Zq;rw[mM s]
 unfold Qm at aJ;obtain⟨⟨i1,i2⟩,⟨i3,i4⟩,⟨i5,i6⟩,⟨i7,i8⟩,i9,a7⟩:=aJ;have aj:OkS sz sq hd:=QC (by unfold qv at s;simp only[pR] at s;exact s.1);have aH:Hid (∀W (k:Nat),k≤257→Calls Tryz.prog 41 #[.int .i64 sz,.int .i64 hd,.int .i64 k] W fun e w'=>e= .returned (.int .i64 (qi sz hd (k:Int)))∧w'=W):=fun W k hk=>ZB W sz hd k i1 i2 i7;have aI:Hid (∀k:Nat,1≤qi sz hd (k:Int)∧qi sz hd (k:Int)≤512):=fun k=>by have:= @YD sz hd k i1;omega
 obtain⟨m,Hm⟩: ∃m,Hid (m=(TL t).length):=⟨_,rfl⟩;rw[←Hm.out] at aQ;have R:Hid (∀k,k<m→Vu (TL t).flatten k=(TL t).getD k []):=fun k hk=>Ec aw (by have:=Hm.out;omega);have l:Hid ((TL t).flatten.length=64*m):=by show _=_;rw[Jh aw,Hm.out]
 rw[s];clear s aX aR ag aT aw;have S:Hid (AsW w sz st sq hd us t.seq (.slice po t.homes.length pcap) (.slice ao t.rV.length cap) w1.heap.size (w1.alloc (.cells #[.int .i64 2,.int .i64 0,.slice none 0 0] 71))):=by
  have cF:zr 0 0 w1 (w1.alloc (.cells #[.int .i64 2,.int .i64 0,.slice none 0 0] 71)):=zr.al w1;exact⟨⟨cF.bt aB,cF.bt aC⟩,zt w1 _,HA.trans cF⟩
 have av:Hid (zL (w1.alloc (.cells #[.int .i64 2,.int .i64 0,.slice none 0 0] 71)) w.heap.size 71 5 (.slice (some ⟨w.heap.size+1+1,0,none⟩) 0 0) [] [] (fun _=> .slice none 0 0)):=am.chg (zr.al w1) (fun g f=>zk) (fun i g hi f=>zk);have sF:(w1.alloc (.cells #[.int .i64 2,.int .i64 0,.slice none 0 0] 71)).heap.size=w1.heap.size+1:=zn;obtain⟨x0,x1,x2,x3,x4⟩:=qe S.1.1;clear aB aC am HA;by_cases ai:st=0
 ·have ad:Hid (zG sz st sq hd=jh (qz 106 108 111 103 1 sz sq hd)):=by show _=_;unfold zG;rw[mM ai]
  subst ai;have hN:=fun W=>bN W sz 0 sq hd us aj;have a3:Hid ((qz 106 108 111 103 1 sz sq hd).length=64):=YL aj;go_upto_region 6 with fail;generalize w1.alloc (.cells #[.int .i64 2,.int .i64 0,.slice none 0 0] 71)=wf at*;clear x0 x1 x2 x3 x4;go_wp2;refine js (AsW w sz 0 sq hd us t.seq (.slice po t.homes.length pcap) (.slice ao t.rV.length cap) w1.heap.size) aU ?_;have HS:Hid (AsW w sz 0 sq hd us t.seq (.slice po t.homes.length pcap) (.slice ao t.rV.length cap) w1.heap.size wf.drew):=S.keep (zr.drew (zr.refl 0 0 wf))
  have aG:Hid (zL wf.drew w.heap.size 71 5 (.slice (some ⟨w.heap.size+1+1,0,none⟩) 0 0) [] [] (fun _=> .slice none 0 0)):=av.chg (zr.drew (zr.refl 0 0 wf)) (fun g f=>zk) (fun i g hi f=>zk);have sD:wf.drew.heap.size=w1.heap.size+1:=sF;clear S av sF;generalize wf.drew=wd at*;refine hT2 0 (.slice (some ⟨w.heap.size+1+1,0,none⟩) 0 0) rfl ?_;go_simp;refine hTk 1 (Zl sz 0 sq hd us) rfl (fun w' V=>by obtain⟨x0,x1,x2,x3,x4⟩:=qe V.1.1;go_simp) HS.out ?_
  go_simp;refine hT2 2 (.pointer (some ⟨w.heap.size,3,none⟩)) rfl ?_;go_simp;refine hTk 3 (.int .i64 hd) rfl (fun w' V=>by obtain⟨x0,x1,x2,x3,x4⟩:=qe V.1.1;go_simp) HS.out ?_;go_simp;refine hTk 5 (.agg #[.int .i64 2,.int .i64 0,.slice none 0 0]) rfl (fun w' V=>by obtain⟨⟨k0,k1,k2⟩,_⟩:=lC V.2.1;go_simp) HS.out ?_;go_simp;refine hOn 4 rfl ?_;refine zv 40 #[Zl sz 0 sq hd us,.int .i64 hd] zq (hN _) ?_
  rintro e w5 ⟨g5,I,rfl,o5,c5⟩;have ap:Hid (AsW w sz 0 sq hd us t.seq (.slice po t.homes.length pcap) (.slice ao t.rV.length cap) w1.heap.size w5):=HS.keep c5;have s5:=c5.size;have aE:Hid (zL w5 w.heap.size 71 5 (.slice (some ⟨w.heap.size+1+1,0,none⟩) 0 0) [] [] (fun _=> .slice none 0 0)):=aG.chg c5 (fun g f=>zk) (fun i g hi f=>zk);have aD:Hid (zu w5 wd.heap.size 5 (.slice (some ⟨g5,0,none⟩) 64 I) (qz 106 108 111 103 1 sz sq hd)):=o5
  clear o5 c5 hN aG;refine⟨_,rfl,ap,?_⟩;go_simp;obtain⟨ic,aS,aL,ae,a4⟩:=na Tryz.infoOp;refine hOn 6 rfl ?_;refine oe 39 71 2 #[(0,.tmp 23),(1,.tmp 24)] rfl #[.int .i64 1,.int .i64 1,.slice (some ⟨g5,0,none⟩) 64 I,.int .i64 2,.int .i64 0,.slice none 0 0] ic _ Tryz.underlying39 aS aL (by rw[ae];decide) (by rw[ae];decide) (by rw[ae,oh];refine mr _ ?_ _ _ _ _ _ _;simp) ?_;have X:zr 0 0 w5 (w5.alloc (.cells #[.int .i64 1,.int .i64 1,.slice (some ⟨g5,0,none⟩) 64 I,.int .i64 2,.int .i64 0,.slice none 0 0] 71)):=zr.al w5
  obtain⟨aO,aP,X6⟩:=Uu w5 wd.heap.size g5 I _ zk aD;have aF:Hid (zL (w5.alloc (.cells #[.int .i64 1,.int .i64 1,.slice (some ⟨g5,0,none⟩) 64 I,.int .i64 2,.int .i64 0,.slice none 0 0] 71)) w.heap.size 71 5 (.slice (some ⟨w.heap.size+1+1,0,none⟩) 0 0) [] [] (fun _=> .slice none 0 0)):=aE.chg X (fun g f=>zk) (fun i g hi f=>zk);have ah:Hid (AsW w sz 0 sq hd us t.seq (.slice po t.homes.length pcap) (.slice ao t.rV.length cap) w1.heap.size (w5.alloc (.cells #[.int .i64 1,.int .i64 1,.slice (some ⟨g5,0,none⟩) 64 I,.int .i64 2,.int .i64 0,.slice none 0 0] 71))):=ap.keep X
  have s6:=X.size;have a1:(w5.alloc (.cells #[.int .i64 1,.int .i64 1,.slice (some ⟨g5,0,none⟩) 64 I,.int .i64 2,.int .i64 0,.slice none 0 0] 71)).heap.size=w5.heap.size+1:=zn;generalize w5.alloc (.cells #[.int .i64 1,.int .i64 1,.slice (some ⟨g5,0,none⟩) 64 I,.int .i64 2,.int .i64 0,.slice none 0 0] 71)=q at*;refine⟨ah,?_⟩;clear X ap aE aD;go_simp;refine hOn 7 rfl ?_;refine ju (.tmp 19) (.tmp 25) rfl w.heap.size wd.heap.size _ _ [] (jh (qz 106 108 111 103 1 sz sq hd)) [] aO (fun _=> .slice none 0 0) aP rfl aF rfl X6 (by have:=HS.2.2.size;omega) (by have:=ah.2.2.size;omega) zn zn (fun i j g hi=>by simp at hi) ?_
  rintro v' w8 ⟨L,E,rfl⟩ o8 gr8 K;have T:Hid (AsW w sz 0 sq hd us t.seq (.slice po t.homes.length pcap) (.slice ao t.rV.length cap) w1.heap.size w8):=ah.grown gr8 (fun g f=>by have:=Jm f;omega);have az:L≠w1.heap.size∧w.heap.size+1<L:=by
   rcases K L rfl with h|h
   ·have:=Jm h;omega
   ·omega
  have an:Hid (∃cells dvs,zL w8 w.heap.size 71 5 (.slice (some ⟨L,0,none⟩) 2 E) (zG sz 0 sq hd) cells dvs):=⟨_,_,by rw[ad.out];exact o8⟩;have s8:=T.2.2.size;have a2:w1.heap.size+1≤w8.heap.size:=by have:=gr8.size;omega
  clear o8 gr8 K X6 aF ah HS;refine⟨T,?_⟩;go_simp;refine hTk 8 (.slice (some ⟨L,0,none⟩) 2 E) rfl (fun w' V=>zm) T.out ?_;go_simp;refine hDn ?_;have ak:Hid ((zG sz 0 sq hd).length=2):=by show _=_;rw[ad.out];rfl
  clear s5 s6 a1 sD;obtain⟨⟨k0,k1,k2⟩,_⟩:=tri T.1.2;go_wp2_with fail;refine(HN _ T.2.2).mono ?_;rintro e wb ⟨gb,cb,rfl,ob,cB⟩;have ab:Hid (AsW w sz 0 sq hd us t.seq (.slice po t.homes.length pcap) (.slice ao t.rV.length cap) w1.heap.size wb):=T.keep cB;have sb:=cB.size;rw[←Hm.out] at ob⊢;have aM:=ob.lt gb rfl;have M:Hid (zC wb gb (gb+1) .u8 (.slice (some ⟨gb,0,none⟩) (64*m) cb) (TL t).flatten):=(ob.base (base':=gb) (fun g f=>by have:=Jm f;omega)).view (by rw[l.out];omega) (hi:=gb+1) (fun g f=>by have:=Jm f;omega)
  have aa:Hid (∃cells dvs,zL wb w.heap.size 71 5 (.slice (some ⟨L,0,none⟩) 2 E) (zG sz 0 sq hd) cells dvs):=by obtain⟨c,d,h⟩:=an.out;exact⟨c,d,h.chg cB (fun g f=>zk) (fun i g hi f=>zk)⟩
  obtain⟨ob2,J⟩: ∃cu,wb.heap[gb]?=some (.cells cu 5 (0,0)):=ob.elem rfl;have H:Hid (wb.heap[gb]?=some (.cells ob2 5 (0,0))):=J;have aA:L≠w1.heap.size∧w.heap.size+1<L:=az;clear ob cB J k0 k1 k2;obtain⟨xb,au⟩: ∃xb,Hid (xb=(TL t).flatten):=⟨_,rfl⟩;rw[←au.out] at M l R;obtain⟨C,n⟩: ∃C,C=64*m:=⟨_,rfl⟩;have F:Hid (C=64*m):=n;have hq:(C:Int).tdiv 64=(m:Int):=by rw[sM zk,n];omega
  have a0:IntKind.i64.wrap (m:Int)=(m:Int):=by rw[mS];omega
  rw[←n] at M l⊢;clear n;go_wp2_with fail;go_loopw [5,8] (fun o x wr=> ∃(k g cp:Nat),k≤m∧x= .int .i64 k∧o= .slice (some ⟨g,0,none⟩) (2+k) cp∧(g≠w1.heap.size∧w.heap.size+1<g)∧(∃cells dvs,zL wr w.heap.size 71 5 (.slice (some ⟨g,0,none⟩) (2+k) cp) (zG sz 0 sq hd++jl sz hd (TL t) k) cells dvs)∧wr.heap[gb]?=some (.cells ob2 5 (0,0))∧wb.heap.size≤wr.heap.size∧AsW w sz 0 sq hd us t.seq (.slice po t.homes.length pcap) (.slice ao t.rV.length cap) w1.heap.size wr) (fun _ x _=>m-(intOf x).toNat)
  case atStart=>exact⟨0,_,_,mX _,rfl,rfl,aA,by rw[show jl sz hd (TL t) 0= [] from rfl,nw];exact aa.out,H.out,mP _,ab.out⟩
  case round=>
   obtain⟨k,g,cp,hk,rfl,rfl,f,⟨cells,dvs,ho⟩,af,aW,O⟩:=hrel;have Z:Hid (zL wr w.heap.size 71 5 (.slice (some ⟨g,0,none⟩) (2+k) cp) (zG sz 0 sq hd++jl sz hd (TL t) k) cells dvs):=ho;have p:Hid (AsW w sz 0 sq hd us t.seq (.slice po t.homes.length pcap) (.slice ao t.rV.length cap) w1.heap.size wr):=O;have B:Hid (wr.heap[gb]?=some (.cells ob2 5 (0,0))):=af;have HL:Hid ((zG sz 0 sq hd++jl sz hd (TL t) k).length=2+k):=by show _=_;rw[mL,ak.out,qM]
   have hswr:=O.2.2.size;clear ho O af aa ab;by_cases ag:k<m
   ·have hi':(k:Int)<(m:Int):=zk;obtain⟨x0,x1,x2,x3,x4⟩:=qe p.1.1;go_wp2_with fail;refine(aH _ k zk).mono ?_;rintro e w5 ⟨rfl,rfl⟩;have aV:=aI.out k;have aq:Hid (jl sz hd (TL t) (k+1)=jl sz hd (TL t) k++ [(1,1+qi sz hd (k:Int),(TL t).getD k [])]):=Ez sz hd (TL t) k;generalize qi sz hd (k:Int)=pl at*;have aZ:IntKind.i64.wrap (1+pl)=1+pl:=by rw[mS];omega
    have ac:zC w5 gb (gb+1) .u8 (.slice (some ⟨gb,0,none⟩) xb.length cb) xb:=by
     have h:=M.out.keep (w':=w5) (fun b h1 h2=>by rw[show b=gb by omega];exact B.out.trans H.out.symm);rw[l.out];exact h
    have P:=Qf w5 (k:=k) ac (by rw[l.out,F.out];omega) (by rw[l.out,F.out];omega);rw[l.out,R.out k ag] at P;generalize (TL t).getD k []=blk at*;clear x0 x1 x2 x3 x4 ac;go_wp2_with fail;refine P.mono ?_;rintro e q ⟨v6,rfl,o6,X⟩;obtain⟨u,A,y,rfl⟩:=zF o6;have s6:=X.size;have U:zr 0 0 q (q.alloc (.cells #[.int .i64 1,.int .i64 (1+pl),.slice u A y] 71)):=zr.al q;have D:=X.trans U;have s7:(q.alloc (.cells #[.int .i64 1,.int .i64 (1+pl),.slice u A y] 71)).heap.size=q.heap.size+1:=zn
    have HX7:Hid (zL (q.alloc (.cells #[.int .i64 1,.int .i64 (1+pl),.slice u A y] 71)) w5.heap.size 71 5 (.slice (some ⟨q.heap.size,0,none⟩) 1 1) [(1,1+pl,blk)] [.int .i64 1,.int .i64 (1+pl),.slice u A y] (fun _=> .slice u A y)):=jD q w5.heap.size 1 (1+pl) (.slice u A y) blk s6 o6;have HO7:Hid (zL (q.alloc (.cells #[.int .i64 1,.int .i64 (1+pl),.slice u A y] 71)) w.heap.size 71 5 (.slice (some ⟨g,0,none⟩) (2+k) cp) (zG sz 0 sq hd++jl sz hd (TL t) k) cells dvs):=Z.chg D (fun g f=>zk) (fun i g hi f=>zk)
    have r:Hid (AsW w sz 0 sq hd us t.seq (.slice po t.homes.length pcap) (.slice ao t.rV.length cap) w1.heap.size (q.alloc (.cells #[.int .i64 1,.int .i64 (1+pl),.slice u A y] 71))):=p.keep D;have G:Hid ((q.alloc (.cells #[.int .i64 1,.int .i64 (1+pl),.slice u A y] 71)).heap[gb]?=some (.cells ob2 5 (0,0))):=D.bt B;have ar:Hid (∀(i j:Nat) (g:Nat),i<(zG sz 0 sq hd++jl sz hd (TL t) k).length→j<1→(dvs i).ownBlock=some g→(Value.slice u A y).ownBlock≠some g):=Zm (N:=w5.heap.size) (fun i g hi f=>((Z.data i hi).lt g f).2) (fun g f=>(o6.lt g f).1)
    clear P o6 X U D p Z B;go_wp2_with (refine ZE rfl (.tmp 36) (.tmp 48) rfl w.heap.size w5.heap.size _ _ (zG sz 0 sq hd++jl sz hd (TL t) k) [(1,1+pl,blk)] cells _ dvs _ rfl HO7.out rfl HX7.out hswr zk Nat.one_pos (by rw[HL.out];show _+1≤_;omega) ar.out ?_;intro v8 w8 e8 o8 gr8 K);obtain⟨L,E,rfl⟩:=e8.out;rw[HL.out] at*;go_roundw
    case rel=>
     refine⟨k+1,L,E,zk,by go_num,rfl,?_,?_,?_,by have:=gr8.out.size;omega,r.out.grown gr8.out (fun g' Q=>by have:=Jm Q;omega)⟩
     ·rcases K.out L rfl with h|h
      ·have:=Jm h;omega
      ·omega
     ·rw[aq.out,←nk];exact o8.out
     ·exact(gr8.out.block gb zk (fun e=>by obtain⟨cu,ay⟩:=zK HO7.row e.symm;exact qf ay G zp rfl)).trans G
    case measure=>simp[intOf];omega
   ·obtain rfl:k=m:=zk;obtain⟨⟨k0,k1,k2⟩,_⟩:=lC p.2.1;have U:zr 0 0 wr (wr.alloc (.cells #[.int .i64 2,.int .i64 0,.slice none 0 0] 71)):=zr.al wr;have s7:(wr.alloc (.cells #[.int .i64 2,.int .i64 0,.slice none 0 0] 71)).heap.size=wr.heap.size+1:=zn;have HX7:Hid (zL (wr.alloc (.cells #[.int .i64 2,.int .i64 0,.slice none 0 0] 71)) wr.heap.size 71 5 (.slice (some ⟨wr.heap.size,0,none⟩) 1 1) [(2,0,[])] [.int .i64 2,.int .i64 0,.slice none 0 0] (fun _=> .slice none 0 0)):=jD wr wr.heap.size 2 0 (.slice none 0 0) [] nlR (zu.nil _ _ _)
    have HO7:Hid (zL (wr.alloc (.cells #[.int .i64 2,.int .i64 0,.slice none 0 0] 71)) w.heap.size 71 5 (.slice (some ⟨g,0,none⟩) (2+k) cp) (zG sz 0 sq hd++jl sz hd (TL t) k) cells dvs):=Z.chg U (fun g f=>zk) (fun i g hi f=>zk);have r:Hid (AsW w sz 0 sq hd us t.seq (.slice po t.homes.length pcap) (.slice ao t.rV.length cap) w1.heap.size (wr.alloc (.cells #[.int .i64 2,.int .i64 0,.slice none 0 0] 71))):=p.keep U
    clear U p Z B;go_wp2_with (refine ZE rfl (.tmp 50) (.tmp 52) rfl w.heap.size wr.heap.size _ _ (zG sz 0 sq hd++jl sz hd (TL t) k) [(2,0,[])] cells _ dvs _ rfl HO7.out rfl HX7.out hswr zk Nat.one_pos (by rw[HL.out];show _+1≤_;omega) (fun i j g _ _ _ h=>by simp[Value.ownBlock] at h) ?_;intro v8 w8 e8 o8 gr8 K);obtain⟨L,E,rfl⟩:=e8.out;have Y:=r.grown gr8.out (fun g' Q=>by have:=Jm Q;omega);go_ret;exact⟨_,rfl,by rw[Ht.out,←Hm.out];exact o8.out,Y.2.2⟩
 ·have ad:Hid (zG sz st sq hd= []):=by show _=_;unfold zG;rw[mN ai]
  generalize aY:w1.alloc (.cells #[.int .i64 2,.int .i64 0,.slice none 0 0] 71)=wf at*;have an:Hid (∃cells dvs,zL wf w.heap.size 71 5 (.slice (some ⟨w.heap.size+1+1,0,none⟩) 0 0) (zG sz st sq hd) cells dvs):=⟨_,_,by rw[ad.out];exact av⟩;have az:w.heap.size+1+1≠w1.heap.size∧w.heap.size+1<w.heap.size+1+1:=zk;have a2:w1.heap.size+1≤wf.heap.size:=zk;have ak:Hid ((zG sz st sq hd).length=0):=by show _=_;rw[ad.out];rfl
  have a6:(st==0)=false:=by simpa using ai
  subst aY;obtain⟨⟨k0,k1,k2⟩,_⟩:=tri S.1.2;go_wp2_with fail;refine(HN _ S.2.2).mono ?_;rintro e wb ⟨gb,cb,rfl,ob,cB⟩;have ab:Hid (AsW w sz st sq hd us t.seq (.slice po t.homes.length pcap) (.slice ao t.rV.length cap) w1.heap.size wb):=S.keep cB;have sb:=cB.size;rw[←Hm.out] at ob⊢;have aM:=ob.lt gb rfl;have M:Hid (zC wb gb (gb+1) .u8 (.slice (some ⟨gb,0,none⟩) (64*m) cb) (TL t).flatten):=(ob.base (base':=gb) (fun g f=>by have:=Jm f;omega)).view (by rw[l.out];omega) (hi:=gb+1) (fun g f=>by have:=Jm f;omega)
  have aa:Hid (∃cells dvs,zL wb w.heap.size 71 5 (.slice (some ⟨(w.heap.size+1+1),0,none⟩) 0 0) (zG sz st sq hd) cells dvs):=by obtain⟨c,d,h⟩:=an.out;exact⟨c,d,h.chg cB (fun g f=>zk) (fun i g hi f=>zk)⟩
  obtain⟨ob2,J⟩: ∃cu,wb.heap[gb]?=some (.cells cu 5 (0,0)):=ob.elem rfl;have H:Hid (wb.heap[gb]?=some (.cells ob2 5 (0,0))):=J;have aA:(w.heap.size+1+1)≠w1.heap.size∧w.heap.size+1<(w.heap.size+1+1):=az;clear ob cB J k0 k1 k2 x0 x1 x2 x3 x4;obtain⟨xb,au⟩: ∃xb,Hid (xb=(TL t).flatten):=⟨_,rfl⟩;rw[←au.out] at M l R;obtain⟨C,n⟩: ∃C,C=64*m:=⟨_,rfl⟩;have F:Hid (C=64*m):=n;have hq:(C:Int).tdiv 64=(m:Int):=by rw[sM zk,n];omega
  have a0:IntKind.i64.wrap (m:Int)=(m:Int):=by rw[mS];omega
  rw[←n] at M l⊢;clear n;go_wp2_with fail;go_loopw [5,8] (fun o x wr=> ∃(k g cp:Nat),k≤m∧x= .int .i64 k∧o= .slice (some ⟨g,0,none⟩) k cp∧(g≠w1.heap.size∧w.heap.size+1<g)∧(∃cells dvs,zL wr w.heap.size 71 5 (.slice (some ⟨g,0,none⟩) k cp) (zG sz st sq hd++jl sz hd (TL t) k) cells dvs)∧wr.heap[gb]?=some (.cells ob2 5 (0,0))∧wb.heap.size≤wr.heap.size∧AsW w sz st sq hd us t.seq (.slice po t.homes.length pcap) (.slice ao t.rV.length cap) w1.heap.size wr) (fun _ x _=>m-(intOf x).toNat)
  case atStart=>exact⟨0,_,_,mX _,rfl,rfl,aA,by rw[show jl sz hd (TL t) 0= [] from rfl,nw];exact aa.out,H.out,mP _,ab.out⟩
  case round=>
   obtain⟨k,g,cp,hk,rfl,rfl,f,⟨cells,dvs,ho⟩,af,aW,O⟩:=hrel;have Z:Hid (zL wr w.heap.size 71 5 (.slice (some ⟨g,0,none⟩) k cp) (zG sz st sq hd++jl sz hd (TL t) k) cells dvs):=ho;have p:Hid (AsW w sz st sq hd us t.seq (.slice po t.homes.length pcap) (.slice ao t.rV.length cap) w1.heap.size wr):=O;have B:Hid (wr.heap[gb]?=some (.cells ob2 5 (0,0))):=af;have HL:Hid ((zG sz st sq hd++jl sz hd (TL t) k).length=k):=by show _=_;rw[mL,ak.out,qM];omega
   have hswr:=O.2.2.size;clear ho O af aa ab;by_cases ag:k<m
   ·have hi':(k:Int)<(m:Int):=zk;obtain⟨x0,x1,x2,x3,x4⟩:=qe p.1.1;go_wp2_with fail;refine(aH _ k zk).mono ?_;rintro e w5 ⟨rfl,rfl⟩;have aV:=aI.out k;have aq:Hid (jl sz hd (TL t) (k+1)=jl sz hd (TL t) k++ [(1,1+qi sz hd (k:Int),(TL t).getD k [])]):=Ez sz hd (TL t) k;generalize qi sz hd (k:Int)=pl at*;have aZ:IntKind.i64.wrap (1+pl)=1+pl:=by rw[mS];omega
    have ac:zC w5 gb (gb+1) .u8 (.slice (some ⟨gb,0,none⟩) xb.length cb) xb:=by
     have h:=M.out.keep (w':=w5) (fun b h1 h2=>by rw[show b=gb by omega];exact B.out.trans H.out.symm);rw[l.out];exact h
    have P:=Qf w5 (k:=k) ac (by rw[l.out,F.out];omega) (by rw[l.out,F.out];omega);rw[l.out,R.out k ag] at P;generalize (TL t).getD k []=blk at*;clear x0 x1 x2 x3 x4 ac;go_wp2_with fail;refine P.mono ?_;rintro e q ⟨v6,rfl,o6,X⟩;obtain⟨u,A,y,rfl⟩:=zF o6;have s6:=X.size;have U:zr 0 0 q (q.alloc (.cells #[.int .i64 1,.int .i64 (1+pl),.slice u A y] 71)):=zr.al q;have D:=X.trans U;have s7:(q.alloc (.cells #[.int .i64 1,.int .i64 (1+pl),.slice u A y] 71)).heap.size=q.heap.size+1:=zn
    have HX7:Hid (zL (q.alloc (.cells #[.int .i64 1,.int .i64 (1+pl),.slice u A y] 71)) w5.heap.size 71 5 (.slice (some ⟨q.heap.size,0,none⟩) 1 1) [(1,1+pl,blk)] [.int .i64 1,.int .i64 (1+pl),.slice u A y] (fun _=> .slice u A y)):=jD q w5.heap.size 1 (1+pl) (.slice u A y) blk s6 o6;have HO7:Hid (zL (q.alloc (.cells #[.int .i64 1,.int .i64 (1+pl),.slice u A y] 71)) w.heap.size 71 5 (.slice (some ⟨g,0,none⟩) k cp) (zG sz st sq hd++jl sz hd (TL t) k) cells dvs):=Z.chg D (fun g f=>zk) (fun i g hi f=>zk)
    have r:Hid (AsW w sz st sq hd us t.seq (.slice po t.homes.length pcap) (.slice ao t.rV.length cap) w1.heap.size (q.alloc (.cells #[.int .i64 1,.int .i64 (1+pl),.slice u A y] 71))):=p.keep D;have G:Hid ((q.alloc (.cells #[.int .i64 1,.int .i64 (1+pl),.slice u A y] 71)).heap[gb]?=some (.cells ob2 5 (0,0))):=D.bt B;have ar:Hid (∀(i j:Nat) (g:Nat),i<(zG sz st sq hd++jl sz hd (TL t) k).length→j<1→(dvs i).ownBlock=some g→(Value.slice u A y).ownBlock≠some g):=Zm (N:=w5.heap.size) (fun i g hi f=>((Z.data i hi).lt g f).2) (fun g f=>(o6.lt g f).1)
    clear P o6 X U D p Z B;go_wp2_with (refine ZE rfl (.tmp 36) (.tmp 48) rfl w.heap.size w5.heap.size _ _ (zG sz st sq hd++jl sz hd (TL t) k) [(1,1+pl,blk)] cells _ dvs _ rfl HO7.out rfl HX7.out hswr zk Nat.one_pos (by rw[HL.out];show _+1≤_;omega) ar.out ?_;intro v8 w8 e8 o8 gr8 K);obtain⟨L,E,rfl⟩:=e8.out;rw[HL.out] at*;go_roundw
    case rel=>
     refine⟨k+1,L,E,zk,by go_num,rfl,?_,?_,?_,by have:=gr8.out.size;omega,r.out.grown gr8.out (fun g' Q=>by have:=Jm Q;omega)⟩
     ·rcases K.out L rfl with h|h
      ·have:=Jm h;omega
      ·omega
     ·rw[aq.out,←nk];exact o8.out
     ·exact(gr8.out.block gb zk (fun e=>by obtain⟨cu,ay⟩:=zK HO7.row e.symm;exact qf ay G zp rfl)).trans G
    case measure=>simp[intOf];omega
   ·obtain rfl:k=m:=zk;obtain⟨⟨k0,k1,k2⟩,_⟩:=lC p.2.1;have U:zr 0 0 wr (wr.alloc (.cells #[.int .i64 2,.int .i64 0,.slice none 0 0] 71)):=zr.al wr;have s7:(wr.alloc (.cells #[.int .i64 2,.int .i64 0,.slice none 0 0] 71)).heap.size=wr.heap.size+1:=zn;have HX7:Hid (zL (wr.alloc (.cells #[.int .i64 2,.int .i64 0,.slice none 0 0] 71)) wr.heap.size 71 5 (.slice (some ⟨wr.heap.size,0,none⟩) 1 1) [(2,0,[])] [.int .i64 2,.int .i64 0,.slice none 0 0] (fun _=> .slice none 0 0)):=jD wr wr.heap.size 2 0 (.slice none 0 0) [] nlR (zu.nil _ _ _)
    have HO7:Hid (zL (wr.alloc (.cells #[.int .i64 2,.int .i64 0,.slice none 0 0] 71)) w.heap.size 71 5 (.slice (some ⟨g,0,none⟩) k cp) (zG sz st sq hd++jl sz hd (TL t) k) cells dvs):=Z.chg U (fun g f=>zk) (fun i g hi f=>zk);have r:Hid (AsW w sz st sq hd us t.seq (.slice po t.homes.length pcap) (.slice ao t.rV.length cap) w1.heap.size (wr.alloc (.cells #[.int .i64 2,.int .i64 0,.slice none 0 0] 71))):=p.keep U
    clear U p Z B;go_wp2_with (refine ZE rfl (.tmp 50) (.tmp 52) rfl w.heap.size wr.heap.size _ _ (zG sz st sq hd++jl sz hd (TL t) k) [(2,0,[])] cells _ dvs _ rfl HO7.out rfl HX7.out hswr zk Nat.one_pos (by rw[HL.out];show _+1≤_;omega) (fun i j g _ _ _ h=>by simp[Value.ownBlock] at h) ?_;intro v8 w8 e8 o8 gr8 K);obtain⟨L,E,rfl⟩:=e8.out;have Y:=r.grown gr8.out (fun g' Q=>by have:=Jm Q;omega);go_ret
    exact⟨_,rfl,by rw[Ht.out,←Hm.out];exact o8.out,Y.2.2⟩
def Jt (sz st sq hd us:Int):List Opx:=if zQ sz st sq hd us=true∧us≠0 then jh (qz 106 108 111 103 1 sz sq hd) else []
theorem zL.none (w:World)(base:Nat)(b a:TypeId):zL w base b a (zj .none 0 0) [] [] (fun _=>zj .none 0 0):=
 ⟨⟨rfl,Or.inl ⟨rfl,rfl⟩⟩,fun i h=>absurd h (nW i),fun i h=>absurd h (nW i),fun i h=>absurd h (nW i),fun i h=>absurd h (nW i),fun _ j _ _ h=>absurd h (nW j)⟩
theorem VJ (w:World)(sz j c b f:Int)
  (D:w.cell? (zd 0)=some (zb 106)) (E:w.cell? ⟨0,1,none⟩=some (zb 108)) (F:w.cell? ⟨0,2,none⟩=some (zb 111)) (G:w.cell? ⟨0,3,none⟩=some (zb 103)):
  Calls Tryz.prog 12 #[.agg #[za sz,za j,za c,za b,za f]] w fun e w'=> ∃v,e= .returned v∧(∃a l,zL w' w.heap.size 71 5 v (Jt sz j c b f) a l)∧zr 0 0 w w':=by
 have A:zr 0 0 w (w.alloc (zi #[za sz,za j,za c,za b,za f] 30)):=zr.al w;have z:=zt w (zi #[za sz,za j,za c,za b,za f] 30);have T:(w.alloc (zi #[za sz,za j,za c,za b,za f] 30)).heap.size=w.heap.size+1:=zn;have o:Hid (w.cell? (zd 0)=some (zb 106)∧w.cell? ⟨0,1,none⟩=some (zb 108)∧w.cell? ⟨0,2,none⟩=some (zb 111)∧w.cell? ⟨0,3,none⟩=some (zb 103)):=⟨D,E,F,G⟩;have I:Hid (zr 0 0 w (w.alloc (zi #[za sz,za j,za c,za b,za f] 30))):=A
 have H:Hid ((w.alloc (zi #[za sz,za j,za c,za b,za f] 30)).heap[w.heap.size]?=some (zi #[za sz,za j,za c,za b,za f] 30)):=z;clear A z D E F G;go_enter Tryz.func12,Tryz.ntmps12;go_wp2_with fail;generalize w.alloc (zi #[za sz,za j,za c,za b,za f] 30)=w0 at*;refine(ZI _ sz j c b f).mono ?_;rintro e q ⟨rfl,h1⟩;have d:Hid (zr 0 0 w q):=I.trans h1;have s:Hid (q.heap[w.heap.size]?=some (zi #[za sz,za j,za c,za b,za f] 30)):=h1.bt H
 obtain⟨O,P,Q,R,S⟩:=qe s;have U:=h1.size;clear h1;by_cases k:zQ sz j c b f=true
 case neg=>
  have n:Hid (Jt sz j c b f= []):=by show _=_;unfold Jt;rw[mN (fun h=>k h.1)]
  rw[pk] at k;rw[k];clear k;go_wp2;go_ret;exact⟨_,rfl,by rw[n.out];exact⟨_,_,zL.none _ _ _ _⟩,d⟩
 by_cases p:f=0
 ·subst p;have n:Hid (Jt sz j c b 0= []):=by show _=_;unfold Jt;rw[mN (fun h=>h.2 rfl)]
  rw[k];clear k;go_wp2;go_ret;exact⟨_,rfl,by rw[n.out];exact⟨_,_,zL.none _ _ _ _⟩,d⟩
 have n:Hid (Jt sz j c b f=jh (qz 106 108 111 103 1 sz c b)):=by show _=_;unfold Jt;rw[mM ⟨k,p⟩]
 have B:=KQ q sz j c b f k (d.cell o.1) (d.cell o.2.1) (d.cell o.2.2.1) (d.cell o.2.2.2);have L:(f==0)=false:=by simpa using p
 rw[k];clear k p;go_wp2_with fail;refine B.mono ?_;rintro e y ⟨g,rfl,⟨a,l,m⟩,h2⟩;have t:Hid (zr 0 0 w y):=d.trans h2;have N:Hid (zL y q.heap.size 71 5 (zg g 2 2) (jh (qz 106 108 111 103 1 sz c b)) a l):=m;have J:Hid (zL y w.heap.size 71 5 (zg g 2 2) (jh (qz 106 108 111 103 1 sz c b)) a l):=by
  have:=d.size;refine⟨?_,m.at0,m.at1,m.at2,fun i hi=>(m.data i hi).base (fun g C=>by have:=((m.data i hi).lt g C).1;omega),m.apart⟩;obtain⟨M,x⟩:=m.row;refine⟨M,?_⟩;rcases x with x|⟨K,cap,u,e,C,r⟩
  ·exact Or.inl x
  ·exact Or.inr ⟨K,cap,u,e,zk,r⟩
 clear B m h2;go_wp2;go_ret;exact⟨_,rfl,by rw[n.out];exact⟨_,_,J⟩,t⟩
abbrev sR:= @Nat.mod_add_mod
theorem Uj (a:List Wr): ∀(d:Dsk),d.pN.length+a.length≤600→(∀p∈a,0≤p.1∧p.1<((d.dR.length/64:Nat):Int)∧p.2.length=64)→
  Zt d (a.map fun p=>((1,p.1,p.2):Opx))=some ⟨d.dR,d.pN++a⟩:=by
 induction a with
 |nil=>intro d _ _;simp[Zt]
 |cons p r ih=>
  intro d b h;have c:=h p zn;rw[nR];simp only[Zt];have e:opD d (1,p.1,p.2)=some ⟨d.dR,d.pN++ [(p.1,p.2)]⟩:=by
   unfold opD;rw[mM rfl,mM ⟨by rw[m7] at b;omega,c⟩]
  rw[e];show Zt ⟨d.dR,d.pN++ [(p.1,p.2)]⟩ _=_;rw[ih ⟨d.dR,d.pN++ [(p.1,p.2)]⟩ (by rw[mL];simp at b⊢;omega) (fun q f=>h q (by simp[f]))];simp
theorem KO {d:Dsk}(i:qL d)(f:d.pN= [])(a:List Wr)(g:a.length≤600)(h: ∀p∈a,0≤p.1∧p.1<((d.dR.length/64:Nat):Int)∧p.2.length=64):
  ∃e,Zt d ((a.map fun p=>((1,p.1,p.2):Opx))++ [(2,0,[])])=some e∧e.pN= []∧e.dR.length=d.dR.length∧qL e∧ ∀b:Nat,blk e.dR b=Qt a (b:Int) (blk d.dR b):=by
 have h1:=Uj a d (by rw[f];simpa using g) h;rw[f,nG] at h1;have c:qL ⟨d.dR,a⟩:=JM h1 i;refine⟨setD (fun _=>true) ⟨d.dR,a⟩,?_,rfl,j7 _ _ c _ nlR,JP _ c,fun b=>?_⟩
 ·rw[Qs,h1];rfl
 ·have h2:=EX (fun _=>true) ⟨d.dR,a⟩ c b a.length nlR;have h3:=dZ a b (blk d.dR b) a.length nlR;rw[nV] at h3;exact h2.trans h3.symm
structure qF (d:Dsk)(n sz:Nat)(F:Nat→FB)(st sq:Int):Prop where
 dR:d.dR.length=64*n
 pN:d.pN= []
 big:n≤2048∧sz+2≤n∧16≤sz∧sz≤512
 sb:(0≤st∧st≤sz)∧1≤sq∧sq≤4294967295
 sup:blk d.dR 1=qz 106 108 111 103 1 sz sq st
 ok: ∀i,i<sz→(F i).ok
 at': ∀i,i<sz→blk d.dR (2+i)=(F i).bs
theorem qF.valid {d:Dsk}{F:Nat→FB}(h:qF d n sz F st sq):qL d:=by
 obtain⟨h1,h2,⟨h3,a,b,c⟩,_,_,_,_⟩:=h;refine⟨zk,zk,zk,by rw[h2];simp,fun i hi=>?_⟩;rw[h2] at hi;simp at hi
theorem NB {sz:Int}(h1:0≤sz∧sz≤512)(h2:1≤sq∧sq≤4294967295)(h3:0≤st∧st≤512):(qz 106 108 111 103 1 sz sq st).length=64:=by
 unfold qz;obtain⟨a,b⟩:=qP (jP 106 108 111 103 1 sz sq st);rw[mL,ZO (pn2) (pn4 zk h2.2) (pn2),pn4 a b]
theorem Yb {d:Dsk}{F:Nat→FB}{st' sq':Int}(h:qF d n sz F st sq)(h1:0≤st'∧st'≤sz)(h2:1≤sq'∧sq'≤4294967295):
  ∃a,Zt d (jh (qz 106 108 111 103 1 sz sq' st'))=some a∧qF a n sz F st' sq':=by
 have g:=h.big;obtain⟨a,c,e,f,m,b⟩:=KO h.valid h.pN [(1,qz 106 108 111 103 1 sz sq' st')] zn (fun p l=>by
  obtain rfl:=nx.1 l;refine⟨zn,?_,NB ⟨zk,zk⟩ h2 ⟨h1.1,zk⟩⟩;rw[h.dR];show(1:Int)<_;omega)
 refine⟨a,c,f.trans h.dR,e,g,⟨h1,h2⟩,?_,h.ok,fun i hi=>?_⟩
 ·rw[b 1];simp[Qt]
 ·rw[b (2+i),QP _ _ _ (fun j k=>?_)]
  ·exact h.at' i hi
  ·simp only[nJ] at k;obtain rfl:j=0:=zk;show(1:Int)≠((2+i:Nat):Int);omega
def win (F:Nat→FB) (sz p k:Nat):List FB:=(List.range k).map fun i=>F ((p+i) % sz)
theorem ji (F:Nat→FB)(sz p k:Nat):(win F sz p k).length=k:=by simp[win]
theorem Xv (F:Nat→FB)(sz p k m:Nat):win F sz p (k+m)=win F sz p k++win F sz (p+k) m:=by
 unfold win;rw[List.range_add,m6,oR];congr 1;apply pz;intro i _;simp[pm]
theorem ep (F:Nat→FB)(sz p k:Nat):win F sz (p % sz) k=win F sz p k:=by
 unfold win;apply pz;intro i _;rw[sR]
theorem Vp {F:Nat→FB}(hs:0<sz){x:FB}(h:x∈win F sz p k): ∃i,i<sz∧x=F i:=by
 unfold win at h;obtain⟨i,_,rfl⟩:=m9.1 h;exact⟨_,nF _ hs,rfl⟩
theorem aR (F:Nat→FB)(sz p k m:Nat)(h:m≤k):(win F sz p k).drop m=win F sz (p+m) (k-m):=by
 have:=Xv F sz p m (k-m);rw[show m+(k-m)=k by omega] at this;rw[this,List.drop_left' (ji _ _ _ _)]
def gap (sz p i:Nat):Nat:=(i+sz-p % sz) % sz
theorem E9 {j:Nat}(hs:0<sz)(a:j<sz:=by omega):gap sz p ((p+j) % sz)=j:=by
 unfold gap;have b:=nF p hs;have e:(p+j) % sz=if p % sz+j<sz then p % sz+j else p % sz+j-sz:=by
  rw[Nat.add_mod,oN a];split
  ·exact oN (by assumption)
  ·rw[Nat.mod_eq_sub_mod zk,oN zk]
 rw[e];split
 ·rw[show p % sz+j+sz-p % sz=j+sz by omega,sU,oN a]
 ·rw[show p % sz+j-sz+sz-p % sz=j by omega,oN a]
theorem lW {i:Nat}(hi:i<sz):(p+gap sz p i) % sz=i:=by
 unfold gap;have hs:0<sz:=zk;have a:=nF p hs;rw[Nat.add_mod_mod,Nat.add_mod];have e:(i+sz-p % sz) % sz=if p % sz≤i then i-p % sz else i+sz-p % sz:=by
  split
  ·rw[show i+sz-p % sz=(i-p % sz)+sz by omega,sU,oN zk]
  ·exact oN zk
 rw[e];split
 ·rw[show p % sz+(i-p % sz)=i by omega,oN hi]
 ·rw[show p % sz+(i+sz-p % sz)=i+sz by omega,sU,oN hi]
theorem lY {i:Nat}(hs:0<sz):gap sz p i<sz:=nF _ hs
def QD (F:Nat→FB) (sz p:Nat) (xs:List FB) (i:Nat):FB:=if gap sz p i<xs.length then xs.getD (gap sz p i) (.raw []) else F i
theorem Nl {F:Nat→FB}{xs:List FB}(hs:0<sz){j:Nat}(a:j<xs.length)(b:xs.length≤sz:=by omega):QD F sz p xs ((p+j) % sz)=xs.getD j (.raw []):=by
 unfold QD;rw[E9 hs,mM a]
theorem Nm {F:Nat→FB}{xs:List FB}(a: ∀i,i<sz→(F i).ok)(b: ∀x∈xs,x.ok): ∀i,i<sz→(QD F sz p xs i).ok:=by
 intro i hi;unfold QD;split
 ·rename_i h;refine b _ ?_;rw[mV,mZ h];exact nj h
 ·exact a i hi
theorem YF {F:Nat→FB}{xs:List FB}(i:Nat):QD F sz p xs i∈xs∨QD F sz p xs i=F i:=by
 unfold QD;split
 ·rename_i h;left;rw[mV,mZ h];exact nj h
 ·right;rfl
theorem aS {F:Nat→FB}{xs:List FB}(hs:0<sz)(a:xs.length≤sz:=by omega):win (QD F sz p xs) sz p xs.length=xs:=by
 unfold win;apply p8
 ·simp
 ·intro i h1 h2;simp only[List.getElem_map,List.getElem_range];rw[Nl hs h2 a,mV,mZ h2];rfl
theorem EQ {F:Nat→FB}{xs:List FB}(hs:0<sz)(a:k+xs.length≤sz:=by omega):win (QD F sz (p+k) xs) sz p k=win F sz p k:=by
 unfold win;apply pz;intro i hi;have hi:=pq.1 hi;unfold QD;rw[mN];have e:(p+i) % sz=(p+k+(sz-k+i)) % sz:=by
  rw[show p+k+(sz-k+i)=p+i+sz by omega,sU]
 by_cases h0:xs.length=0
 ·rw[h0];omega
 ·rw[e,E9 hs];omega
theorem VQ {d:Dsk}{F:Nat→FB}(h:qF d n sz F st sq)(p:Nat)(xs:List FB)(E:xs.length≤sz)(w: ∀x∈xs,x.ok):
  ∃o,Zt d (jl sz ((p:Int)+1) (xs.map FB.bs) xs.length++ [(2,0,[])])=some o∧qF o n sz (QD F sz p xs) st sq:=by
 have B:=h.big;have hs:0<sz:=zk;obtain⟨f,c⟩: ∃f:List Wr,f=(List.range xs.length).map fun i=>((((2+(p+i) % sz:Nat):Int)),(xs.map FB.bs).getD i []):=⟨_,rfl⟩;have b:f.length=xs.length:=by rw[c];simp
 have l: ∀i,i<xs.length→(xs.map FB.bs).getD i []=(xs.getD i (.raw [])).bs:=fun i hi=>by simp[hi]
 have t: ∀i,i<xs.length→(xs.getD i (.raw []))∈xs:=fun i hi=>by rw[mV,mZ hi];exact nj hi
 have a: ∀i,i<xs.length→f.getD i (0,[])=((((2+(p+i) % sz:Nat):Int)),(xs.map FB.bs).getD i []):=fun i hi=>by rw[c];simp[hi]
 have k:jl sz ((p:Int)+1) (xs.map FB.bs) xs.length=f.map fun p=>((1,p.1,p.2):Opx):=by
  unfold jl;rw[c,oR];apply pz;intro i _;simp only[Function.comp];congr 2;unfold qi;have e:((p:Int)+1-1+(i:Int)) % (sz:Int)=(((p+i) % sz:Nat):Int):=by
   rw[show(p:Int)+1-1+(i:Int)=((p+i:Nat):Int) by omega];rfl
  rw[e];omega
 obtain⟨o,y,z,A,C,u⟩:=KO h.valid h.pN f (by rw[b];omega) (fun q v=>by
  rw[c] at v;obtain⟨i,hi,rfl⟩:=m9.1 v;have hi:=pq.1 hi;have G:=nF (p+i) hs;refine⟨by simp only;omega,?_,?_⟩
  ·rw[h.dR];simp only;omega
  ·simp only;rw[l i hi];exact FB.len (w _ (t i hi)))
 rw[k];refine⟨o,y,A.trans h.dR,z,B,h.sb,?_,Nm h.ok w,fun i hi=>?_⟩
 ·rw[u 1,QP _ _ _ (fun j m=>?_)]
  ·exact h.sup
  ·rw[b] at m;rw[a j m];show((2+(p+j) % sz:Nat):Int)≠((1:Nat):Int);omega
 ·rw[u (2+i)];have D:=lY (p:=p) (i:=i) hs;have s:=lW (p:=p) hi;by_cases g:gap sz p i<xs.length
  ·rw[EJ f _ _ (gap sz p i) (by rw[b];exact g) (by rw[a _ g,s]) (fun j h1 h2=>?_),a _ g]
   ·show(xs.map FB.bs).getD (gap sz p i) []=_;rw[l _ g];unfold QD;rw[mM g]
   ·rw[b] at h2;rw[a j h2];show((2+(p+j) % sz:Nat):Int)≠((2+i:Nat):Int);intro e;have r:(p+j) % sz=i:=zk;have:=E9 (sz:=sz) (p:=p) (j:=j) hs;rw[r] at this;omega
  ·rw[QP _ _ _ (fun j m=>?_)]
   ·unfold QD;rw[mN g];exact h.at' i hi
   ·rw[b] at m;rw[a j m];show((2+(p+j) % sz:Nat):Int)≠((2+i:Nat):Int);intro e;have r:(p+j) % sz=i:=zk;have:=E9 (sz:=sz) (p:=p) (j:=j) hs;rw[r] at this;omega
end Go.Proofs.YthdeofoleiiibaaGreatDoor
