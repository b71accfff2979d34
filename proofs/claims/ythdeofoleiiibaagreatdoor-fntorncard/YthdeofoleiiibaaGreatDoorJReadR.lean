import Derived.Test.YthdeofoleiiibaaGreatDoorCrcMath
import Derived.Test.YthdeofoleiiibaaGreatDoorPutByt
namespace Go.Proofs.YthdeofoleiiibaaGreatDoor
open Go.RowKit
set_option maxRecDepth 100000
set_option maxHeartbeats 16000000
variable {w W0 W:World}{xs rs Y:List Int}{q:Int}{base D g cap k hi B lo b off n:Nat}{e:TypeId}{cs:List Value}{v:Value}{ts:List (Int×Bool)}{o:Oper}{a:Act}{Q:Exit→Act→World→Prop}
theorem kZ (x:Nat)(a:x<4294967296):bits .and .u32 (x:Int) 1=((x % 2:Nat):Int):=by
 have:=u32_and_nat x 1 a zk;rw[nat_mask1] at this;exact this
theorem kF (x:Nat)(a:x<4294967296):bits .xor .u32 ((x:Int)/2) 2197175160=((x/2^^^2197175160:Nat):Int):=by
 have:=u32_xor_nat (x/2) 2197175160 zk zk;rw[←this];congr 1
theorem N3 (a b:Nat)(c:a<4294967296:=by omega)(d:b<4294967296:=by omega):bits .xor .i64 (a:Int) (b:Int)=((a^^^b:Nat):Int):=by
 have e:a^^^b<2^32:=sI zk zk;show IntKind.i64.wrap ((BitVec.ofInt 64 (a:Int)^^^BitVec.ofInt 64 (b:Int)).toNat:Int)=_;rw[BitVec.toNat_xor,ofInt_u64 a zk,ofInt_u64 b zk];simp[IntKind.wrap,IntKind.bits,IntKind.signed];omega
theorem gr (x:Nat)(a:x<4294967296):bits .xor .i64 ((x:Int)/2) 2197175160=((x/2^^^2197175160:Nat):Int):=by
 have:=N3 (x/2) 2197175160;rw[←this];congr 1
theorem my (a:Nat)(b:a<4294967296):bits .xor .u32 4294967295 (a:Int)=((4294967295-a:Nat):Int):=by
 show IntKind.u32.wrap ((BitVec.ofInt 32 4294967295^^^BitVec.ofInt 32 (a:Int)).toNat:Int)=_;have h1:BitVec.ofInt 32 4294967295=BitVec.allOnes 32:=zp;rw[h1,BitVec.allOnes_xor,BitVec.toNat_not,ofInt_u32 a b,IntKind.wrap_u32'];omega
theorem YX (w:World)(r:Nat)(g:r<4294967296:=by omega):
  Calls Tryz.prog 148 #[.int .u32 r] w fun e w'=>e= .returned (.int .u32 (jm 8 r 0:Nat))∧w'=w:=by
 go_enter Tryz.func148,Tryz.ntmps148;go_wp2;go_loop [0,4] (fun x i=> ∃k:Nat,k≤8∧i=za k∧x= .int .u32 (jm k r 0:Nat)) (fun _ i=>8-(intOf i).toNat)
 case atStart=>exact⟨0,mX _,rfl,rfl⟩
 case round=>
  obtain⟨k,h,rfl,rfl⟩:=hrel;by_cases f:k<8
  ·have c:=YH k r 0 g;have b:Hid (jm (k+1) r 0=stp (jm k r 0) 0):=iU k r;generalize jm k r 0=x at*;have hi:(k:Int)<8:=zk;have a:=kZ x c;by_cases h1:x % 2=1
   ·have HX:Hid (((jm (k+1) r 0:Nat):Int)=bits .xor .u32 ((x:Int)/2) 2197175160):=by
     show _=_;rw[b.out,kF x c];unfold stp;rw[mM zk]
    have d:(bits .and .u32 (x:Int) 1==1)=true:=by rw[a,h1];rfl
    clear a h1;go_wp2;go_round
    case rel=>exact⟨k+1,zk,by go_num,by rw[HX.out]⟩
    case measure=>simp[intOf];omega
   ·have HX:Hid (((jm (k+1) r 0:Nat):Int)=(x:Int)/2):=by
     show _=_;rw[b.out];unfold stp;rw[mN zk];omega
    have d:(bits .and .u32 (x:Int) 1==1)=false:=by rw[a,show x % 2=0 by omega];rfl
    clear a h1;go_wp2;go_round
    case rel=>exact⟨k+1,zk,by go_num,by rw[HX.out]⟩
    case measure=>simp[intOf];omega
  ·obtain rfl:k=8:=zk;go_wp2;go_ret;exact⟨rfl,rfl⟩
theorem fJ (j x d:Nat):jm (j+1) x d=stp (jm j x d) (d/2^j % 2):=by
 rw[ED,ED];rfl
def nb (xs:List Int):List Nat:=xs.map Int.toNat
theorem Q3 (x:Nat)(xs:List Int)(k:Nat)(h:k<xs.length):reg x (nb (xs.take (k+1)))=jm 8 (reg x (nb (xs.take k))) (xs.getD k 0).toNat:=by
 unfold reg nb;rw[oy h,m6,List.foldl_append];simp[h]
def Zy (xs:List Int):Int:=4294967295-(reg 4294967295 (nb xs):Nat)
def XX (c:Int) (xs:List Int):Int:=if c<0∨c>4294967295 then-1 else 4294967295-(reg (4294967295-c.toNat) (nb xs):Nat)
theorem NS (xs:List Int):XX 0 xs=Zy xs:=by
 unfold XX Zy;rw[mN zk];rfl
theorem pn2 {v:Int}(h0:0≤v:=by omega)(h1:v<65536:=by omega):(zx v 2).length=2:=by
 unfold zx;rw[mN zk,mN (by rw[show(256:Int)^ (2:Int).toNat=65536 from rfl];omega),qX];rfl
theorem pn4 {v:Int}(h0:0≤v:=by omega)(h1:v≤4294967295:=by omega):(zx v 4).length=4:=by
 unfold zx;rw[mN zk,mN (by rw[show(256:Int)^ (4:Int).toNat=4294967296 from rfl];omega),qX];rfl
theorem qP (xs:List Int):0≤Zy xs∧Zy xs≤4294967295:=by
 have a:=Xg (nb xs) 4294967295 zk;unfold Zy;omega
abbrev tw:= @List.replicate_succ
abbrev tz:= @List.set_append_right
theorem EK (X A:List Value)(z:Value)(n o:Nat)(a:o=X.length):splice (X++List.replicate n z) o A=X++A++List.replicate (n-A.length) z:=by
 subst a;unfold splice;rw[List.take_left,pY,pp zk,nG,pI,tu,nk]
def jL (Y:List Int):List Value:=(qk Y).map (Value.int .u8)
theorem QU (Y:List Int):jL Y=Y.map (Value.int .u8)++List.replicate (64-Y.length) (zb 0):=by
 unfold jL qk;rw[m6,sy]
theorem jq (h:Y.length≤64):(jL Y).length=64:=by rw[QU];simp;omega
theorem Jf (Y:List Int): ∀v∈jL Y,v.oneCell'=true:=by unfold jL;exact nf _ _
theorem YW (Y A:List Int):splice (jL Y) Y.length (A.map (Value.int .u8))=jL (Y++A):=by
 rw[QU,QU,EK _ _ _ _ _ zn,m6,mO,mL];congr 2;omega
theorem El (h:Y.length<64):jL Y=jL (Y++ [0]):=by
 rw[QU,QU,m6,nk,mL];congr 1;rw[show 64-Y.length=(64-(Y.length+1))+1 by omega,tw];rfl
theorem gS (h:Y.length<64)(x:Int):(jL Y).set Y.length (zb x)=jL (Y++ [x]):=by
 rw[El h,QU,QU,m6,m6,nk,nk,tz _ _ zn];simp
theorem eD (k c q:Int):YT 106 108 111 103 k c q=zD k c q++List.replicate 52 0:=by
 unfold YT zD mg;simp
theorem jH {k c:Int}(a:(zx c 2).length=2)(b:(zx q 4).length=4):(zD k c q).length=12:=by
 unfold zD mg;simp[a,b]
theorem YU {k c:Int}(a:(zx c 2).length=2)(b:(zx q 4).length=4):(YT 106 108 111 103 k c q).map (Value.int .u8)=jL (zD k c q):=by
 rw[eD,QU,m6,sy,jH a b]
abbrev jO (t:TypeId) (k c q:Int) (lv:Value):Obj:= .cells #[zb 106,zb 108,zb 111,zb 103,za k,za c,za q,lv] t
def XF (t:Int×Bool):List Int:=zx t.1 2++ [if t.2 then 1 else 0]
def zP (ts:List (Int×Bool)):List Int:=ts.flatMap XF
theorem Jr (h: ∀x∈ts,0≤x.1∧x.1<2048):(zP ts).length=3*ts.length:=by
 unfold zP
 induction ts with
 |nil=>rfl
 |cons x r ih=>
  rw[nX,mL,ih (fun y a=>h y (by simp[a])),m7];unfold XF;rw[mL,Zc (h x zn)];simp;omega
theorem Yi (h:k<ts.length):zP (ts.take (k+1))=zP (ts.take k)++XF (ts.getD k (0,false)):=by
 unfold zP;rw[oy h,pW];simp[h]
theorem Js (h: ∀x∈ts.map (·.1),0≤x∧x<2048): ∀x∈ts,0≤x.1∧x.1<2048:=fun x a=>h x.1 (m9.2 ⟨x,a,rfl⟩)
theorem EM (ts:List (Int×Bool))(k:Nat):(ts.map (·.1)).getD k 0=(ts.getD k (0,false)).1:=by
 simp only[mV,nU]
 cases ts[k]?<;>rfl
abbrev iq (h0 h1 h2 h3 kd it sq:Int):Value:= .agg #[zb h0,zb h1,zb h2,zb h3,za kd,za it,za sq]
theorem ZL (w:World)(h0 h1 h2 h3 kd a b:Int):
  Calls Tryz.prog 127 #[iq h0 h1 h2 h3 kd a b] w fun e w'=>e= .returned (za a)∧zr 0 0 w w':=by
 have c:Hid (zr 0 0 w (w.alloc (zi #[zb h0,zb h1,zb h2,zb h3,za kd,za a,za b] 146))):=zr.al w;go_enter Tryz.func127,Tryz.ntmps127;go_wp2;go_ret;exact⟨rfl,c⟩
theorem Qg (w:World)(h0 h1 h2 h3 kd a b l m:Int)(d:1≤b:=by omega)(f:b≤4294967295:=by omega)(g:l≤a:=by omega)(h:a≤m:=by omega):
  Calls Tryz.prog 187 #[iq h0 h1 h2 h3 kd a b,za l,za m] w fun e w'=>e= .returned .nilIface∧zr 0 0 w w':=by
 have c:Hid (zr 0 0 w (w.alloc (zi #[zb h0,zb h1,zb h2,zb h3,za kd,za a,za b] 146))):=zr.al w;have i: ¬b<1:=zk;have j: ¬4294967295<b:=zk;have k: ¬a<l:=zk;have n: ¬m<a:=zk;go_enter Tryz.func187,Tryz.ntmps187;go_wp2;go_ret;exact⟨rfl,c⟩
theorem eight {s:Nat}{a0 a1 a2 a3 a4 a5 a6 a7:Value}{t:TypeId}(h:w.heap[s]?=some (zi #[a0,a1,a2,a3,a4,a5,a6,a7] t)):
  w.cell? (zd s)=some a0∧w.cell? ⟨s,1,none⟩=some a1∧w.cell? ⟨s,2,none⟩=some a2∧w.cell? ⟨s,3,none⟩=some a3∧w.cell? ⟨s,4,none⟩=some a4∧w.cell? ⟨s,5,none⟩=some a5∧w.cell? ⟨s,6,none⟩=some a6∧w.cell? ⟨s,7,none⟩=some a7:=by
 simp[World.cell?,h]
theorem XS (w:World)(h0 h1 h2 h3 kd a b c:Int)(m:1≤b)(n:b≤4294967295)(o:16≤a)(p:a≤512)(v:0≤c)(x:c≤a):
  Calls Tryz.prog 222 #[.agg #[zb h0,zb h1,zb h2,zb h3,za kd,za a,za b,za c]] w fun e w'=>e= .returned .nilIface∧zr 0 0 w w':=by
 have l:Hid (zr 0 0 w (w.alloc (zi #[zb h0,zb h1,zb h2,zb h3,za kd,za a,za b,za c] 192))):=zr.al w;have j:Hid ((w.alloc (zi #[zb h0,zb h1,zb h2,zb h3,za kd,za a,za b,za c] 192)).heap[w.heap.size]?=some (zi #[zb h0,zb h1,zb h2,zb h3,za kd,za a,za b,za c] 192)):=zt _ _;obtain⟨r,A,B,C,D,E,F,s⟩:=eight j;have y:decide (c<0)=false:=mY zk;have z: ¬a<c:=zk;go_enter Tryz.func222,Tryz.ntmps222;go_wp2;generalize w.alloc (zi #[zb h0,zb h1,zb h2,zb h3,za kd,za a,za b,za c] 192)=w0 at*
 have q:=ZL w0.drew h0 h1 h2 h3 kd a b;go_region_with (go_at_call 127;refine q.mono ?_;rintro e k ⟨rfl,d⟩;have u:=d.cell (show w0.drew.cell? ⟨w.heap.size,7,none⟩=_ from s))
 all_goals
  have g:Hid (k.heap[w.heap.size]?=some (zi #[zb h0,zb h1,zb h2,zb h3,za kd,za a,za b,za c] 192)):=(d.bk w.heap.size (zV r)).trans j
  have h:Hid (zr 0 0 w k):=l.drew.trans d
  obtain⟨G,H,I,J,K,L,M,u⟩:=eight g
  clear d
  go_wp2_with fail
  refine(Qg _ h0 h1 h2 h3 kd a b 16 512 m n o p).mono ?_
  rintro e t ⟨rfl,f⟩
  have i:Hid (zr 0 0 w t):=h.trans f
  clear f
  go_wp2
  go_ret
  exact⟨rfl,i⟩
theorem gm (w:World)(a b c d k i q s:Int)(h:1≤q∧q≤4294967295∧1≤i∧i≤511)(hs:0≤s∧s≤4294967295):
  Calls Tryz.prog 220 #[.agg #[zb a,zb b,zb c,zb d,za k,za i,za q,za s]] w fun e w'=>e= .returned .nilIface∧zr 0 0 w w':=by
 have l: ¬s<0:=zk;have m: ¬s>4294967295:=zk;have g:=fun W=>Qg W a b c d k i q 1 511 h.1 h.2.1 h.2.2.1 h.2.2.2;have f: ∀o,zr 0 0 w (w.alloc o):=fun o=>zr.alloc (zr.refl 0 0 w) o;go_enter Tryz.func220,Tryz.ntmps220;go_wp2_with (go_at_call 187;refine(g _).mono ?_;rintro e w' ⟨rfl,j⟩);go_ret;exact⟨rfl,(f _).trans j⟩
theorem VH (w:World)(l n:Int)(h:l<n∧n<2048):Calls Tryz.prog 112 #[za l,za n] w fun e w'=>e= .returned (.bool true)∧w'=w:=by
 have h1:n>l:=h.1;have h2:n<2048:=h.2;go_enter Tryz.func112,Tryz.ntmps112;go_wp2;go_ret;exact⟨rfl,rfl⟩
def Vq (xs:List Int):Prop:=(∀i,i+1<xs.length→xs.getD i 0<xs.getD (i+1) 0)∧ ∀x∈xs,0≤x∧x<2048
theorem gp (w:World)(k q:Int){ao:Option Addr}(m:zC w lo hi .i64 (zj ao xs.length cap) xs)(j:Vq xs)(g:1≤xs.length∧xs.length≤26)(h:1≤q∧q≤4294967295):
  Calls Tryz.prog 226 #[.agg #[zb 106,zb 108,zb 111,zb 103,za k,za (xs.length:Int),za q,zj ao xs.length cap]] w fun e w'=>e= .returned .nilIface∧zr 0 0 w w':=by
 have t:=fun W=>Qg W 106 108 111 103 k xs.length q 1 26;have p:Hid (∀o,zr 0 0 w (w.alloc o)):=fun o=>zr.alloc (zr.refl 0 0 w) o;go_enter Tryz.func226,Tryz.ntmps226;obtain⟨b0,off,rfl,a⟩: ∃b off,ao=some ⟨b,off,none⟩∧ ∀i,i<xs.length→w.cell? ⟨b,off+i,none⟩=some (za (xs.getD i 0)):=by
  obtain⟨_,_,e,_,_,h⟩:=m;injection e with r B C;subst r;rcases h with h|⟨b,off,e,_,_,h⟩
  ·rw[h] at g;simp at g
  ·exact⟨b,off,e,h⟩
 have f:zr 0 0 w (w.alloc (jO 201 k xs.length q (zj (some ⟨b0,off,none⟩) xs.length cap))):=p.out _;clear m;go_wp2_with fail;have v:=zt w (jO 201 k xs.length q (zj (some ⟨b0,off,none⟩) xs.length cap));have u:b0<w.heap.size:=zV (a 0 zk);go_loopw [9,3,5] (fun x l _ wr=> ∃i:Nat,i≤xs.length∧x=za i∧l=za (if i=0 then-1 else xs.getD (i-1) 0)∧wr=w.alloc (jO 201 k xs.length q (zj (some ⟨b0,off,none⟩) xs.length cap))) (fun x _ _ _=>xs.length-(RowKit.intOf x).toNat)
 case atStart=>exact⟨0,mX _,rfl,rfl,rfl⟩
 case round=>
  obtain⟨i,hi,rfl,rfl,rfl⟩:=hrel;by_cases c:i<xs.length
  ·have hi':(i:Int)<(xs.length:Int):=zk;have A:=f.cell (a i c);have n:(if i=0 then-1 else xs.getD (i-1) 0)<xs.getD i 0∧xs.getD i 0<2048:=by
    have z:xs.getD i 0∈xs:=by rw[mV,mZ c];exact nj c
    have:=j.2 _ z;refine⟨?_,this.2⟩;by_cases h0:i=0
    ·rw[mM h0];omega
    ·rw[mN h0];have:=j.1 (i-1) zk;rw[Nat.sub_add_cancel zk] at this;exact this
   have s:=fun W=>VH W _ _ n;have HN:Hid (xs.getD i 0=if i+1=0 then-1 else xs.getD (i+1-1) 0):=by show _=_;rw[mN zk,tD]
   generalize (if i=0 then-1 else xs.getD (i-1) 0)=l at*;generalize xs.getD i 0=x at*;clear n;go_wp2_with (go_at_call 112;refine(s _).mono ?_;rintro e w' ⟨rfl,d⟩;obtain rfl:=d.symm);go_roundw
   case rel=>exact⟨i+1,zk,by go_num,by rw[←HN.out],by first|rfl|trivial⟩
   case measure=>simp[RowKit.intOf];omega
  ·have hi': ¬(i:Int)<(xs.length:Int):=zk;go_wp2_with (go_at_call 187;refine(t _).mono ?_;rintro e w' ⟨rfl,y⟩);go_ret;exact⟨rfl,f.trans y⟩
abbrev mJ (t:Int×Bool):Obj:= .cells #[za t.1,.bool t.2] 174
theorem gn (w:World)(k q:Int)(d: ∀i,i<ts.length→w.cell? ⟨b,off+i*2,none⟩=some (za (ts.getD i (0,false)).1)∧w.cell? ⟨b,off+i*2+1,none⟩=some (.bool (ts.getD i (0,false)).2))(s:Vq (ts.map Prod.fst))(M:1≤ts.length∧ts.length≤17)(h:1≤q∧q≤4294967295):
  Calls Tryz.prog 227 #[.agg #[zb 106,zb 108,zb 111,zb 103,za k,za (ts.length:Int),za q,zj (some ⟨b,off,none⟩) ts.length cap]] w fun e w'=>e= .returned .nilIface∧zr 0 0 w w':=by
 have A:=fun W=>Qg W 106 108 111 103 k ts.length q 1 17;have y:zr 0 0 w (w.alloc (jO 235 k ts.length q (zj (some ⟨b,off,none⟩) ts.length cap))):=zr.al w;have a:=zt w (jO 235 k ts.length q (zj (some ⟨b,off,none⟩) ts.length cap));have B:b<w.heap.size:=zV (d 0 zk).1;have v:Hid (∀wr,zr 0 0 (w.alloc (jO 235 k ts.length q (zj (some ⟨b,off,none⟩) ts.length cap))) wr→wr.heap[w.heap.size]?=some (zi #[zb 106,zb 108,zb 111,zb 103,za k,za ts.length,za q,zj (some ⟨b,off,none⟩) ts.length cap] 235)):=fun wr c=>(c.bk _ zn).trans a
 go_enter Tryz.func227,Tryz.ntmps227;go_wp2_with fail;go_loopw [9,3] (fun x l wr=> ∃i:Nat,i≤ts.length∧x=za i∧l=za (if i=0 then-1 else(ts.getD (i-1) (0,false)).1)∧zr 0 0 (w.alloc (jO 235 k ts.length q (zj (some ⟨b,off,none⟩) ts.length cap))) wr) (fun x _ _=>ts.length-(RowKit.intOf x).toNat)
 case atStart=>exact⟨0,mX _,rfl,rfl,zr.refl 0 0 _⟩
 case round=>
  obtain⟨i,hi,rfl,rfl,f⟩:=hrel;have g:=y.trans f;clear a;by_cases m:i<ts.length
  ·have hi':(i:Int)<(ts.length:Int):=zk;obtain⟨p,r⟩:=d i m;replace p:=g.cell p;replace r:=g.cell r;have u:(if i=0 then-1 else(ts.getD (i-1) (0,false)).1)<(ts.getD i (0,false)).1∧(ts.getD i (0,false)).1<2048:=by
    have e: ∀j,j<ts.length→(ts.map Prod.fst).getD j 0=(ts.getD j (0,false)).1:=fun j D=>by simp[D]
    have E:(ts.getD i (0,false)).1∈ts.map Prod.fst:=m9.2 ⟨_,by rw[mV,mZ m];exact nj m,rfl⟩;have:=s.2 _ E;refine⟨?_,this.2⟩;by_cases h0:i=0
    ·rw[mM h0];omega
    ·rw[mN h0];have:=s.1 (i-1) (by rw[mO];omega);rw[Nat.sub_add_cancel zk,e _ zk,e _ m] at this;exact this
   have z:=fun W=>VH W _ _ u;have HN:Hid ((ts.getD i (0,false)).1=if i+1=0 then-1 else(ts.getD (i+1-1) (0,false)).1):=by show _=_;rw[mN zk,tD]
   generalize (if i=0 then-1 else(ts.getD (i-1) (0,false)).1)=l at*;generalize ts.getD i (0,false)=t at*;clear u;have HCN:Hid (zr 0 0 (w.alloc (jO 235 k ts.length q (zj (some ⟨b,off,none⟩) ts.length cap))) (wr.alloc (mJ t))):=f.alloc _;clear f g;go_wp2_with (go_at_call 112;refine(z _).mono ?_;rintro e w' ⟨rfl,o⟩;obtain rfl:=o.symm);go_roundw
   case rel=>exact⟨i+1,zk,by go_num,by rw[←HN.out],HCN.out⟩
   case measure=>simp[RowKit.intOf];omega
  ·have hi': ¬(i:Int)<(ts.length:Int):=zk;have a:=v.out wr f;have n:Hid (zr 0 0 w wr):=g;have F:wr.cell? (zd w.heap.size)=some (zb 106):=by simp[World.cell?,a]
   have G:wr.cell? ⟨w.heap.size,1,none⟩=some (zb 108):=by simp[World.cell?,a]
   have H:wr.cell? ⟨w.heap.size,2,none⟩=some (zb 111):=by simp[World.cell?,a]
   have I:wr.cell? ⟨w.heap.size,3,none⟩=some (zb 103):=by simp[World.cell?,a]
   have J:wr.cell? ⟨w.heap.size,4,none⟩=some (za k):=by simp[World.cell?,a]
   have K:wr.cell? ⟨w.heap.size,5,none⟩=some (za ts.length):=by simp[World.cell?,a]
   have L:wr.cell? ⟨w.heap.size,6,none⟩=some (za q):=by simp[World.cell?,a]
   clear a f g;go_wp2_with (go_at_call 187;refine(A _).mono ?_;rintro e w' ⟨rfl,C⟩);go_ret;exact⟨rfl,n.trans C⟩
theorem J2 (w:World)(c q s:Int)(hi:c≤9223372036854775807)(hq:q≤9223372036854775807)(hs:s≤9223372036854775807)(j:(zx c 2).length=2)(l:(zx q 4).length=4)(E:(zx s 4).length=4):
  Calls Tryz.prog 77 #[.agg #[zb 106,zb 108,zb 111,zb 103,za 4,za c,za q,za s]] w fun e w'=>e= .returned (.agg ((qk (zD 4 c q++zx s 4)).map (Value.int .u8)).toArray)∧zr 0 0 w w':=by
 have n:Hid ((zx s 4).length=4):=E;clear E;have y:=fun w=>QS w 106 108 111 103 4 c q zk zk hi hq j l;have aa:Hid ((zx c 2).length=2):=j;have ab:Hid ((zx q 4).length=4):=l;rw[YU j l] at y;have H:Hid ((zD 4 c q).length=12):=jH j l;obtain⟨bs,d⟩: ∃bs,Hid (bs=jL (zD 4 c q)):=⟨_,rfl⟩;have u:Hid (bs.length=64):=by show _=_;rw[d.out];exact jq (by rw[H.out];omega)
 have HV:Hid (∀v∈bs,v.oneCell'=true):=by show∀v∈bs,v.oneCell'=true;rw[d.out];exact Jf _
 rw[←d.out] at y;have D:(Tryz.prog.info? 78).map (·.size)=some bs.length:=by rw[u.out];kernel_rfl
 obtain⟨z1,J,K⟩:=zU w (jO 148 4 c q (za s)) (zi Z64.toArray 78);have I:zr 0 0 w ((w.alloc (jO 148 4 c q (za s))).alloc (zi Z64.toArray 78)):=(zr.al w).alloc _;have HZ:Hid (((w.alloc (jO 148 4 c q (za s))).alloc (zi Z64.toArray 78)).heap.size=w.heap.size+2∧((w.alloc (jO 148 4 c q (za s))).alloc (zi Z64.toArray 78)).heap[w.heap.size]?=some (jO 148 4 c q (za s))∧((w.alloc (jO 148 4 c q (za s))).alloc (zi Z64.toArray 78)).heap[w.heap.size+1]?=some (zi Z64.toArray 78)∧zr 0 0 w ((w.alloc (jO 148 4 c q (za s))).alloc (zi Z64.toArray 78))):=⟨z1,J,K,I⟩
 clear z1 J K I j l;go_enter Tryz.func77,Tryz.ntmps77;go_wp2_with fail;simp only[qd];generalize ((w.alloc (jO 148 4 c q (za s))).alloc (zi Z64.toArray 78))=wa at*;refine(y wa).mono ?_;rintro e G ⟨rfl,z⟩;have O:Hid (Enc w (G.alloc (zi Z64.toArray 78)) G.heap.size (jO 148 4 c q (za s)) Z64):=by
  obtain⟨z1,J,K,I⟩:=HZ.out;have s2:=z.size;have a:zr 0 0 wa (G.alloc (zi Z64.toArray 78)):=z.alloc _;exact⟨a.bt J,a.bt K,zt _ _,zk,I.trans a⟩
 clear y z HZ;have W:=O.b2;rw[←qd] at W;have Hg:Hid (_=_):=W;clear W;go_upto_region 2 with(first
  |(refine wpList_store_row rfl 78 (.tmp 3) (.tmp 6) rfl rfl G.heap.size rfl bs _ 78 rfl Hg (by rw[u.out];rfl) D HV ?_;intro Z f a))
 simp only[qd] at a;clear Hg;have m:Hid _:=O.put a f;have ac:=m.lo;generalize G.heap.size=N at*;clear f a O;rw[d.out] at m;clear d u HV D;go_cut [11] (fun _ wx=>Enc w wx N (jO 148 4 c q (za s)) (jL (zD 4 c q++zx s 4)))
 case first=>
  have b:Hid _:=m.chg (zr.drew (zr.refl 0 0 Z));have HS0:Hid ((fun w':World=>w'.cell? ⟨w.heap.size,7,none⟩=some (za s)) Z.drew):=by
   have hb:=b.b0;show _=_;simp[World.cell?,hb]
  refine hRg (fun w':World=>w'.cell? ⟨w.heap.size,7,none⟩=some (za s)) ?_;refine hTk 0 (zj (some ⟨N,12,none⟩) 52 52) rfl (fun w' A=>zm) HS0.out ?_;go_simp;refine hTk 1 (.pointer (some ⟨w.heap.size,7,none⟩)) rfl (fun w' A=>zm) HS0.out ?_;go_simp;refine hTk 2 (za s) rfl (fun w' A=>by have h4:w'.cell? _=_:=A;go_simp) HS0.out ?_;go_simp;generalize Z.drew=x1 at*;have ad:=b.lt;have y:=jM x1 s 4;refine hOn 3 rfl ?_
  refine zv 124 #[za s,za 4] zq y ?_;rintro e x2 ⟨r,rfl,o2,T⟩;have B:Hid _:=b.chg T;have C:Hid _:=T.cell HS0;obtain⟨g,gc,rfl,i⟩:=o2.two n zk zk;refine⟨_,rfl,C,?_⟩;have x:Hid _:=i;clear y o2 T i;go_simp;refine hOn 4 rfl ?_;refine jY (.tmp 7) (.tmp 10) 22 22 rfl 5 Tryz.underlying22 zl N 12 52 52 (zd g) 4 gc rfl rfl (jL (zD 4 c q)) 78 B.b2 ((zx s 4).map (Value.int .u8)) (by rw[mO,n.out];rfl) x (by rw[mO,n.out,jq (by rw[H.out];omega)];decide) (nf _ _) ?_
  intro x3 f a;have L:Hid (Enc w x3 N (jO 148 4 c q (za s)) (jL (zD 4 c q++zx s 4))):=by
   have h:=B.put a f.out;have e:=YW (zD 4 c q) (zx s 4);rw[H.out] at e;rw[e] at h;exact h
  have P:Hid _:=a.cell C;refine⟨P,?_⟩;clear f a;go_simp;refine hDn ?_;go_wp2;go_meet;exact L
 case rest=>
  have o:=jq (Y:=zD 4 c q++zx s 4) (by rw[mL,H.out,n.out];omega);obtain⟨cs,p⟩: ∃cs,cs=jL (zD 4 c q++zx s 4):=⟨_,rfl⟩;rw[←p] at hcut o;have t:Hid _:=hcut;generalize wc=wf at*;clear hcut m;have Q:Hid (∀v∈cs,v.oneCell'=true):=by show∀v∈cs,v.oneCell'=true;rw[p];exact Jf _
  have k:(Tryz.prog.info? 78).map (·.size)=some cs.length:=by rw[o];kernel_rfl
  have R:Hid _:=o;have S:Hid _:=p;have F:=Tryz.underlying78;have HR:Hid _:=zy t.b2;have b:Hid _:=t.b1;clear o p;go_wp2_with (first
   |(refine nM rfl 78 (.tmp 3) rfl N 0 rfl cs _ HR F rfl k ?_)
   |(refine wpList_store_row rfl 78 (.tmp 2) (.tmp 12) rfl rfl (w.heap.size+1) rfl cs Z64 78 rfl b (by rw[zN];exact R) k Q ?_;intro wg U V))
  have M:Hid _:=t.ch.step V;have X:(loadVar 78 (zd (w.heap.size+1))).run Tryz.prog wg= .ok (.agg cs.toArray) wg:=nd _ _ _ _ cs _ (zy U) F rfl k;go_wp2;exact mT (v:= .agg cs.toArray) (zH Tryz.results77 rfl X) rfl ⟨by rw[S.out];rfl,M⟩
theorem UR (cs:Array Value)(w:World):(Go.method 444 148 (.agg cs) "loop.example/s01525/impl.wrong").run Tryz.prog w= .ok (220,.agg cs) w:=zl
theorem Vb (cs:Array Value)(w:World):(Go.method 444 148 (.agg cs) "loop.example/s01525/impl.encoded").run Tryz.prog w= .ok (77,.agg cs) w:=zl
theorem NN (w:World)(c q s:Int)(h:1≤q∧q≤4294967295∧1≤c∧c≤511)(hs:0≤s∧s≤4294967295)(z:(zx c 2).length=2)(A:(zx q 4).length=4)(B:(zx s 4).length=4)(a:List Int)(F:a=qk (zD 4 c q++zx s 4))(G:a.length=64)(D:Byt a):
  Calls Tryz.prog 151 #[.iface 148 (.agg #[zb 106,zb 108,zb 111,zb 103,za 4,za c,za q,za s]),.agg (a.map (Value.int .u8)).toArray] w fun e w'=>e= .returned .nilIface∧zr 0 0 w w':=by
 have E:=fun W=>gm W 106 108 111 103 4 c q s h hs;have y:=fun W=>J2 W c q s zk zk zk z A B;rw[←F] at y;have L:=UR #[zb 106,zb 108,zb 111,zb 103,za 4,za c,za q,za s];have M:=Vb #[zb 106,zb 108,zb 111,zb 103,za 4,za c,za q,za s];have x:zr 0 0 w (w.alloc (zi (a.map (Value.int .u8)).toArray 78)):=zr.al w;have o:=zt w (zi (a.map (Value.int .u8)).toArray 78);have t:Hid (a.length=64):=G;have C:Hid (Byt a):=D
 clear F G D;obtain⟨cs,d⟩: ∃cs,cs=a.map (Value.int .u8):=⟨_,rfl⟩;rw[←d] at y x o⊢;have j:Hid (cs=a.map (Value.int .u8)):=d;clear d;go_enter Tryz.func151,Tryz.ntmps151;go_wp2_with fail;refine(E _).mono ?_;rintro e p ⟨rfl,u⟩;have k:=(u.bk _ (zE o)).trans o;have g:Hid (zr 0 0 w p):=x.trans u;clear E u o x;go_upto_region 4 with fail;have b:p.drew.heap[w.heap.size]?=some (zi cs.toArray 78):=k;have i:Hid (zr 0 0 w p.drew):=g.drew
 refine hRg (fun H=>H.heap[w.heap.size]?=some (zi cs.toArray 78)) ?_;clear k g;generalize p.drew=K at*;refine hTk 0 (.iface 148 (.agg #[zb 106,zb 108,zb 111,zb 103,za 4,za c,za q,za s])) rfl (fun w' f=>zm) b ?_;go_simp;have m:(Tryz.prog.info? 78).map (·.size)=some cs.length:=by rw[j.out,mO,t.out];kernel_rfl
 have n:=Tryz.underlying78;refine zI 2 (.agg cs.toArray) rfl zl zl zl (fun _ _ _ h=>h) (nl zl 78 (.tmp 3) rfl w.heap.size 0 rfl cs _ (fun w' f=>zy f) n rfl m) b ?_;go_simp;refine hOn 1 rfl ?_;refine zv 77 #[.agg #[zb 106,zb 108,zb 111,zb 103,za 4,za c,za q,za s]] zq (y K) ?_;rintro e J ⟨rfl,v⟩;have l:=(v.bk _ (zE b)).trans b;have r:Hid (zr 0 0 w J):=i.trans v;have I: ∀W,(Op.equalIn 10000 78 (.agg cs.toArray) (.agg cs.toArray)).run Tryz.prog W= .ok true W:=fun W=>by
  rw[j.out,jG W _ 64 n C.out C.out t.out t.out,mR rfl]
 clear v i;refine⟨_,rfl,l,?_⟩;go_simp;refine hTk 3 (.bool false) rfl (fun w' f=>zm) l ?_;go_simp;refine hDn ?_;go_wp2;go_ret;exact⟨rfl,r⟩
theorem Zo {P:Program}{fn:Func}{p1 p2:Tmp}{t1:TypeId}{tmps:Array Value}{a1:Addr}{v1 v2:Value}(h:fn.results= #[.cell p1 t1,.tmp p2])(h1:tmps.getD p1 undef= .pointer (some a1))(h2:tmps.getD p2 undef=v2)
  (c:(loadVar t1 a1).run P w= .ok v1 w):(results fn tmps).run P w= .ok (.tuple #[v1,v2]) w:=by
 have a:tmps[p1]?.getD undef= .pointer (some a1):=by simpa using h1
 have b:tmps[p2]?.getD undef=v2:=by simpa using h2
 simp only[results,h];simp[asAddr,a,b,c]
theorem UY (w:World){a:Value}{tL tM tK:TypeId}{vL vM vK:Value}(c q s:Int)(h1:zC w lo hi .u8 a xs)(hB:Byt xs)(hG:Za w tL tM tK vL vM vK)(K:xs.length=64)(hm:xs.take 4=mg)(hk:xs.getD 4 0=4)(hh:hd7 xs= #[zb 106,zb 108,zb 111,zb 103,za 4,za c,za q])(A:qI ((xs.drop 12).take 4)=s)
  (he:xs=qk (zD 4 c q++zx s 4)) (hb:1≤q∧q≤4294967295∧1≤c∧c≤511) (hs:0≤s∧s≤4294967295) (ag:(zx c 2).length=2) (ai:(zx q 4).length=4) (aj:(zx s 4).length=4):
  Calls Tryz.prog 176 #[a] w fun e w'=>e= .returned (.tuple #[.agg #[zb 106,zb 108,zb 111,zb 103,za 4,za c,za q,za s],.nilIface])∧zr 0 0 w w':=by
 have CA:zr 0 0 w (w.alloc (zi #[zb 0,zb 0,zb 0,zb 0,za 0,za 0,za 0,za 0] 148)):=zr.al w;have I:=zt w (zi #[zb 0,zb 0,zb 0,zb 0,za 0,za 0,za 0,za 0] 148);have hN:=QV (w.alloc (zi #[zb 0,zb 0,zb 0,zb 0,za 0,za 0,za 0,za 0] 148)) 4 (h1.chg CA zk) hB (hG.chg CA zk) K hm hk;have U:=fun W=>NN W c q s hb hs ag ai aj xs he K hB;obtain⟨ao,cap,rfl,_⟩:=h1;obtain⟨cs,t⟩: ∃cs,cs=xs.map (Value.int .u8):=⟨_,rfl⟩
 have L1:cs.length=64:=by rw[t];simpa using K
 have L2: ∀v∈cs,v.oneCell'=true:=by rw[t];exact nf _ _
 have z:(Tryz.prog.info? 78).map (·.size)=some cs.length:=by rw[L1];kernel_rfl
 have ad:Hid _:=L1;have ae:Hid _:=L2;have o: ∀(W:World) (B:Nat),W.heap[B]?=some (zi cs.toArray 78)→Calls Tryz.prog 150 #[zj (some ⟨B,12,none⟩) 4 52] W fun e w'=>e= .returned (za s)∧zr 0 0 W w':=fun W B hW=>by
  have Y:((xs.drop 12).take 4).length=4:=by rw[mW,m8,K];omega
  have hv:zC W B (B+1) .u8 (zj (some ⟨B,12,none⟩) 4 52) ((xs.drop 12).take 4):=by
   refine⟨_,52,by rw[Y],zk,⟨zk,zn⟩,Or.inr ⟨B,12,rfl,mP _,m5 _,fun i hi=>?_⟩⟩;rw[Y] at hi;simp only[World.cell?,hW];rw[t];simp[hi,K,show 12+i<64 by omega]
  have:=Zd W ((hB.drop 12).take 4) hv;rw[A] at this;exact this.mono fun e w' h=>⟨h.1,h.2.chg 0 0⟩
 rw[←t] at hN U;rw[hh] at hN;clear t L1 L2 K hB hG hm hk hh he A;go_enter Tryz.func176,Tryz.ntmps176;go_wp2_with fail;generalize w.alloc (zi #[zb 0,zb 0,zb 0,zb 0,za 0,za 0,za 0,za 0] 148)=wa at*;refine hN.mono ?_;rintro e f ⟨rfl,c2⟩;have s2:=c2.size;have ak:=(zE I);have HZ:Hid _:=(c2.bk _ ak).trans I;have HA:Hid _:=CA.trans c2;clear hN c2 CA I;obtain⟨y1,y2,y3⟩:=zU f (zi Z64.toArray 78) (zi z7.toArray 146)
 have T:zr 0 0 f ((f.alloc (zi Z64.toArray 78)).alloc (zi z7.toArray 146)):=(zr.al f).alloc _;have Q:Hid _:=y2;have E:Hid _:=y3;have N:Hid _:=T;clear y1 y2 y3 T;go_upto_region 2 with(first
  |(refine wpList_store_row rfl 78 (.tmp 4) (.tmp 11) rfl rfl f.heap.size rfl cs Z64 78 rfl (by simp only[qd];exact Q) (by rw[zN];exact ad) z ae ?_;intro w3 G k)
  |(refine wpList_store_row rfl 146 (.tmp 5) (.tmp 12) rfl rfl (f.heap.size+1) rfl [zb 106,zb 108,zb 111,zb 103,za 4,za c,za q] z7 146 rfl (by simp only[qd] at k;exact(k.bk (f.heap.size+1) (zE E)).trans E) rfl zl (by simp[Value.oneCell']) ?_;intro w4 H x))
 have s3:=k.size;have s4:=x.size;have ap:=(zE H);have C4:zr 0 0 f w4:=by
  simp only[qd] at k;exact(N.step k).step x
 have HH:Hid (_∧_):=⟨H,(x.bk _ (zE G)).trans G⟩;have O:Hid _:=HA.trans C4;have R:Hid _:=C4.bt HZ;clear G H k x C4 N Q E;go_upto_region 4 with fail;go_cut [7] (fun s7 wx=> ∃B7,s7=zh B7∧w4.heap.size≤B7∧zr 0 0 w4 wx∧wx.heap[B7]?=some (zi (List.toArray [zb 106,zb 108,zb 111,zb 103,za 4,za c,za q,za s]) 148))
 case first=>
  have HS:Hid ((fun w':World=>w'.heap[f.heap.size+1]?=some (zi (List.toArray [zb 106,zb 108,zb 111,zb 103,za 4,za c,za q]) 146)∧w'.heap[f.heap.size]?=some (zi cs.toArray 78)) w4.drew):=HH.out;have C:Hid _:=zr.drew (zr.refl 0 0 w4);have an:=C.size;refine hRg (fun w':World=>w'.heap[f.heap.size+1]?=some (zi (List.toArray [zb 106,zb 108,zb 111,zb 103,za 4,za c,za q]) 146)∧w'.heap[f.heap.size]?=some (zi cs.toArray 78)) ?_
  generalize w4.drew=L at*;refine zI 0 (.agg (List.toArray [zb 106,zb 108,zb 111,zb 103,za 4,za c,za q])) rfl zl zl zl (fun _ _ _ h=>h) (nl zl 146 (.tmp 5) rfl (f.heap.size+1) 0 rfl [zb 106,zb 108,zb 111,zb 103,za 4,za c,za q] _ (fun w' j=>zy j.1) Tryz.underlying146 rfl zl) HS ?_;go_simp;refine hT2 1 (zj (some ⟨f.heap.size,12,none⟩) 4 52) rfl ?_;go_simp;refine qY 2 4 rfl rfl rfl rfl zl ?_ ?_
  ·refine zv 150 #[zj (some ⟨f.heap.size,12,none⟩) 4 52] zq (o L f.heap.size HS.out.2) ?_;rintro e M ⟨rfl,m⟩;have s6:=m.size;have b:Hid (_∧_):=⟨(m.bk _ (zE HS.1)).trans HS.1,(m.bk _ (zE HS.2)).trans HS.2⟩;refine⟨_,rfl,b,?_⟩;go_simp;refine hTk 3 (.agg (List.toArray [zb 106,zb 108,zb 111,zb 103,za 4,za c,za q,za s])) rfl (fun w' j=>zm) b.out ?_;go_simp;refine hOn 4 rfl ?_;have u:zr 0 0 M (M.alloc (zi #[zb 0,zb 0,zb 0,zb 0,za 0,za 0,za 0,za 0] 148)):=zr.al M
   have l:=zt M (zi #[zb 0,zb 0,zb 0,zb 0,za 0,za 0,za 0,za 0] 148);have d:Hid (_∧_):=⟨(u.bk _ (zE b.1)).trans b.1,(u.bk _ (zE b.2)).trans b.2⟩;go_simp;refine⟨d,?_⟩;generalize M.alloc (zi #[zb 0,zb 0,zb 0,zb 0,za 0,za 0,za 0,za 0] 148)=w7 at*;refine hOn 5 rfl ?_;refine wsR [zb 106,zb 108,zb 111,zb 103,za 4,za c,za q,za s] l ?_;intro w8 p g;have D:Hid (_∧_):=⟨(g.bk _ (zE d.1)).trans d.1,(g.bk _ (zE d.2)).trans d.2⟩
   have HF:Hid _:=((C.trans m).trans u).step g;have F:Hid _:=p;refine⟨D,hDn ?_⟩;clear p g u l m;go_wp2;go_meet;exact⟨_,rfl,zk,HF,F⟩
  ·have u:zr 0 0 L (L.alloc (zi #[zb 0,zb 0,zb 0,zb 0,za 0,za 0,za 0,za 0] 148)):=zr.al L;have l:=zt L (zi #[zb 0,zb 0,zb 0,zb 0,za 0,za 0,za 0,za 0] 148);have d:Hid (_∧_):=⟨(u.bk _ (zE HS.1)).trans HS.1,(u.bk _ (zE HS.2)).trans HS.2⟩;go_simp;refine⟨d,?_⟩;generalize L.alloc (zi #[zb 0,zb 0,zb 0,zb 0,za 0,za 0,za 0,za 0] 148)=w7 at*;refine hOn 2 rfl ?_;refine zv 150 #[zj (some ⟨f.heap.size,12,none⟩) 4 52] zq (o w7 f.heap.size d.out.2) ?_
   rintro e M ⟨rfl,m⟩;have s6:=m.size;have s7:=u.size;have b:Hid (_∧_):=⟨(m.bk _ (zE d.1)).trans d.1,(m.bk _ (zE d.2)).trans d.2⟩;have Z:=(m.bk _ (zE l)).trans l;refine⟨_,rfl,b,?_⟩;go_simp;refine hTk 3 (.agg (List.toArray [zb 106,zb 108,zb 111,zb 103,za 4,za c,za q,za s])) rfl (fun w' j=>zm) b.out ?_;go_simp;refine hOn 5 rfl ?_;refine wsR [zb 106,zb 108,zb 111,zb 103,za 4,za c,za q,za s] Z ?_;intro w8 p g
   have D:Hid (_∧_):=⟨(g.bk _ (zE b.1)).trans b.1,(g.bk _ (zE b.2)).trans b.2⟩;have HF:Hid _:=((C.trans u).trans m).step g;have F:Hid _:=p;refine⟨D,hDn ?_⟩;clear p g u l Z m;go_wp2;go_meet;exact⟨_,rfl,zk,HF,F⟩
 case rest=>
  obtain⟨B7,rfl,am,r,V⟩:=hcut;generalize wc=w9 at*;have s9:=r.size;have HS:Hid ((fun w':World=>w'.heap[B7]?=some (zi (List.toArray [zb 106,zb 108,zb 111,zb 103,za 4,za c,za q,za s]) 148)∧w'.heap[f.heap.size]?=some (zi cs.toArray 78)) w9.drew):=⟨V,(r.bk _ (zE HH.2)).trans HH.2⟩;have ab:Hid _:=(O.trans r).drew;have S:w9.drew.heap[w.heap.size]?=some (zi (List.toArray [zb 0,zb 0,zb 0,zb 0,za 0,za 0,za 0,za 0]) 148):=r.bt R
  clear r V HH O R o;go_upto_region 5 with fail;refine hRg (fun w':World=>w'.heap[B7]?=some (zi (List.toArray [zb 106,zb 108,zb 111,zb 103,za 4,za c,za q,za s]) 148)∧w'.heap[f.heap.size]?=some (zi cs.toArray 78)) ?_;generalize w9.drew=wd at*;refine zI 0 (.agg (List.toArray [zb 106,zb 108,zb 111,zb 103,za 4,za c,za q,za s])) rfl zl zl zl (fun _ _ _ h=>h) (nl zl 148 (.tmp 7) rfl B7 0 rfl [zb 106,zb 108,zb 111,zb 103,za 4,za c,za q,za s] _ (fun w' j=>zy j.1) Tryz.underlying148 rfl zl) HS ?_
  go_simp;refine zI 1 (.agg (List.toArray [zb 106,zb 108,zb 111,zb 103,za 4,za c,za q,za s])) rfl zl zl zl (fun _ _ _ h=>h) (nl zl 148 (.tmp 7) rfl B7 0 rfl [zb 106,zb 108,zb 111,zb 103,za 4,za c,za q,za s] _ (fun w' j=>zy j.1) Tryz.underlying148 rfl zl) HS ?_;go_simp;refine hT2 2 (.iface 148 (.agg (List.toArray [zb 106,zb 108,zb 111,zb 103,za 4,za c,za q,za s]))) rfl ?_;go_simp;refine zI 3 (.agg cs.toArray) rfl zl zl zl (fun _ _ _ h=>h) (nl zl 78 (.tmp 4) rfl f.heap.size 0 rfl cs _ (fun w' j=>zy j.2) Tryz.underlying78 rfl z) HS ?_
  go_simp;refine hOn 4 rfl ?_;refine zv 151 #[.iface 148 (.agg (List.toArray [zb 106,zb 108,zb 111,zb 103,za 4,za c,za q,za s])),.agg cs.toArray] zq (U wd) ?_;rintro e we ⟨rfl,J⟩;have se:=J.size;have n:Hid (_∧_):=⟨(J.bk _ (zE HS.1)).trans HS.1,(J.bk _ (zE HS.2)).trans HS.2⟩;have aa:=(J.bk _ (zE S)).trans S;refine⟨_,rfl,n,?_⟩;go_simp;refine hOn 5 rfl ?_;refine wsR [zb 106,zb 108,zb 111,zb 103,za 4,za c,za q,za s] aa ?_
  intro wf X y;have P:Hid (_∧_):=⟨(y.bk _ (zE n.1)).trans n.1,(y.bk _ (zE n.2)).trans n.2⟩;have af:Hid _:=X;have ac:Hid _:=(ab.trans J).step y;refine⟨P,?_⟩;clear X y J aa;go_simp;refine hOn 6 rfl ?_;refine jb (v:= .nilIface) (w':=wf) zq ⟨P.out,?_⟩;go_simp;refine hDn ?_;go_wp2;have ah:(loadVar 148 (zd w.heap.size)).run Tryz.prog wf= .ok (.agg (List.toArray [zb 106,zb 108,zb 111,zb 103,za 4,za c,za q,za s])) wf:=nd _ _ _ _ [zb 106,zb 108,zb 111,zb 103,za 4,za c,za q,za s] _ (zy af) Tryz.underlying148 rfl zl
  exact mT (v:= .tuple #[.agg (List.toArray [zb 106,zb 108,zb 111,zb 103,za 4,za c,za q,za s]),.nilIface]) (Zo Tryz.results176 rfl rfl ah) rfl ⟨rfl,ac⟩
theorem J4 (w:World)(c q:Int)(xs:List Int)(b d cap:Nat)(hi:c≤9223372036854775807)(hq:q≤9223372036854775807)(o:(zx c 2).length=2)(s:(zx q 4).length=4)(hl:xs.length≤26)
  (J: ∀x∈xs,0≤x∧x<2048) (h1: ∀i,i<xs.length→w.cell? ⟨b,d+i,none⟩=some (za (xs.getD i 0))):
  Calls Tryz.prog 117 #[.agg #[zb 106,zb 108,zb 111,zb 103,za 3,za c,za q,.slice (some ⟨b,d,none⟩) xs.length cap]] w fun e w'=>e= .returned (.agg ((qk (zD 3 c q++qm xs)).map (Value.int .u8)).toArray)∧zr 0 0 w w':=by
 have X:Hid (∀x∈xs,0≤x∧x<2048):=J;have H1:Hid (∀i,i<xs.length→w.cell? ⟨b,d+i,none⟩=some (za (xs.getD i 0))):=h1;clear J h1;obtain⟨lv,H⟩: ∃lv,lv=Value.slice (some ⟨b,d,none⟩) xs.length cap:=⟨_,rfl⟩;have ac:Hid (lv=Value.slice (some ⟨b,d,none⟩) xs.length cap):=H;rw[←H];clear H;have E:=fun w=>QS w 106 108 111 103 3 c q zk zk hi hq o s;have ah:Hid ((zx c 2).length=2):=o;have ai:Hid ((zx q 4).length=4):=s
 rw[YU o s] at E;have HY:Hid ((zD 3 c q).length=12):=jH o s;obtain⟨bs,j⟩: ∃bs,Hid (bs=jL (zD 3 c q)):=⟨_,rfl⟩;have D:Hid (bs.length=64):=by show _=_;rw[j.out];exact jq (by rw[HY.out];omega)
 have HV:Hid (∀v∈bs,v.oneCell'=true):=by show∀v∈bs,v.oneCell'=true;rw[j.out];exact Jf _
 rw[←j.out] at E;have L:(Tryz.prog.info? 78).map (·.size)=some bs.length:=by rw[D.out];kernel_rfl
 obtain⟨z1,R,S⟩:=zU w (jO 201 3 c q lv) (zi Z64.toArray 78);have P:zr 0 0 w ((w.alloc (jO 201 3 c q lv)).alloc (zi Z64.toArray 78)):=(zr.al w).alloc _;have HZ:Hid (_∧_∧_∧_):=⟨z1,R,S,P⟩;clear z1 R S P o s;go_enter Tryz.func117,Tryz.ntmps117;go_wp2_with fail;simp only[qd];generalize ((w.alloc (jO 201 3 c q lv)).alloc (zi Z64.toArray 78))=wa at*;refine(E wa).mono ?_;rintro e O ⟨rfl,F⟩;have W:Hid (Enc w (O.alloc (zi Z64.toArray 78)) O.heap.size (jO 201 3 c q lv) Z64):=by
  obtain⟨z1,R,S,P⟩:=HZ.out;have s2:=F.size;have a:zr 0 0 wa (O.alloc (zi Z64.toArray 78)):=F.alloc _;exact⟨a.bt R,a.bt S,zt _ _,zk,P.trans a⟩
 clear E F HZ;have J:=W.b2;rw[←qd] at J;have Hg:Hid (_=_):=J;clear J;go_upto_region 2 with(first
  |(refine wpList_store_row rfl 78 (.tmp 3) (.tmp 8) rfl rfl O.heap.size rfl bs _ 78 rfl Hg (by rw[D.out];rfl) L HV ?_;intro w3 m a))
 simp only[qd] at a;clear Hg;have f:Hid _:=W.put a m;have aj:=f.lo;generalize O.heap.size=N at*;clear m a W;rw[j.out] at f;clear j D HV L;have k7:w3.cell? ⟨w.heap.size,7,none⟩=some (.slice (some ⟨b,d,none⟩) xs.length cap):=by
  have hb:=f.b0;simp[World.cell?,hb,ac.out]
 go_wp2;go_loopw [12] (fun x wr=> ∃k:Nat,k≤xs.length∧x=za k∧Enc w wr N (jO 201 3 c q lv) (jL (zD 3 c q++qm (xs.take k)))) (fun x _=>xs.length-(intOf x).toNat)
 case atStart=>exact⟨0,mX _,rfl,by rw[oI];show Enc _ _ _ _ (jL (_++ []));rw[nw];exact f.out⟩
 case round=>
  obtain⟨k,hk,rfl,I⟩:=hrel;by_cases z:k<xs.length
  ·have c1:=I.ch.cell (H1 k z);have Q:xs.getD k 0=xs[k]:=by simp[z]
   have hi':(k:Int)<(xs.length:Int):=zk;have y:=X.out _ (nj z);rw[←Q] at y;have h2:=Zc y;have ak:=y.2;have G:(zD 3 c q++qm (xs.take k)).length=12+2*k:=by rw[mL,HY.out,Jn (fun x Q=>X.out x (ot Q)),mW,ol hk]
   have HT:Hid (splice (jL (zD 3 c q++qm (xs.take k))) (12+2*k) ((zx (xs.getD k 0) 2).map (Value.int .u8))=jL (zD 3 c q++qm (xs.take (k+1)))):=by
    show _=_;rw[V6 z,←nk,←G];exact YW _ _
   have HL:Hid ((jL (zD 3 c q++qm (xs.take k))).length=64):=jq (by rw[G];omega);have T:Hid _:=h2;have HO:Hid _:=I;generalize jL (zD 3 c q++qm (xs.take k))=ad at*;generalize xs.getD k 0=x at*;have q1:(0:Int)≤12+(k:Int)*2:=zk;have q2:12+(k:Int)*2≤64:=zk;have q3:(12+(k:Int)*2).toNat=12+2*k:=zk;have q5: ¬(64:Nat)=12+2*k:=zk;have q4:IntKind.i64.wrap ((k:Int)*2)=(k:Int)*2:=by rw[mS];omega
   have q6:IntKind.i64.wrap (12+(k:Int)*2)=12+(k:Int)*2:=by rw[mS];omega
   clear Q y h2 G I k7;go_upto_region 5 with fail;have h:Hid _:=trivial;refine hRg (fun _:World=>True) ?_;refine hTk 0 (za k) rfl (fun w' A=>zm) h.out ?_;go_simp;refine hTk 1 (za ((k:Int)*2)) rfl (fun w' A=>zm) h.out ?_;go_simp;refine hTk 2 (za (12+(k:Int)*2)) rfl (fun w' A=>zm) h.out ?_;go_simp;refine hTk 3 (.slice (some ⟨N,12+2*k,none⟩) (64-(12+2*k)) (64-(12+2*k))) rfl (fun w' A=>zm) h.out ?_;go_simp
   refine hTk 4 (za x) rfl (fun w' A=>zm) h.out ?_;go_simp;have K:Hid _:=HO.chg (zr.drew (zr.refl 0 0 wr));clear HO;generalize wr.drew=x1 at*;have E:=jM x1 x 2;refine hOn 5 rfl ?_;refine zv 124 #[za x,za 2] zq E ?_;rintro e x2 ⟨r,rfl,o2,c2⟩;have C:Hid _:=K.chg c2;obtain⟨g,gc,rfl,n⟩:=o2.two T zk zk;refine⟨_,rfl,trivial,?_⟩;have l:Hid _:=n;clear E o2 c2 n K;go_simp;refine hOn 6 rfl ?_;refine jY (.tmp 20) (.tmp 22) 22 22 rfl 5 Tryz.underlying22 zl N (12+2*k) (64-(12+2*k)) (64-(12+2*k)) (zd g) 2 gc rfl rfl ad 78 C.b2 ((zx x 2).map (Value.int .u8)) (by rw[mO,T.out];exact(ol zk).symm) l (by rw[mO,T.out,HL.out];omega) (nf _ _) ?_
   intro x3 m a;have HO3:Hid (Enc w x3 N (jO 201 3 c q lv) (jL (zD 3 c q++qm (xs.take (k+1))))):=by show Enc _ _ _ _ _;rw[←HT.out];exact C.out.put a m.out
   refine⟨trivial,?_⟩;clear m a l C;go_simp;refine hDn ?_;go_wp2;go_roundw
   case rel=>exact⟨k+1,zk,by go_num,HO3.out⟩
   case measure=>simp[intOf];omega
  ·obtain rfl:k=xs.length:=zk;rw[nV] at I;have t:=jq (Y:=zD 3 c q++qm xs) (by rw[mL,HY.out,Jn X.out];omega);obtain⟨cs,u⟩: ∃cs,cs=jL (zD 3 c q++qm xs):=⟨_,rfl⟩;rw[←u] at I t;have B:Hid _:=I;generalize wr=wf at*;clear I f k7;have Z:Hid (∀v∈cs,v.oneCell'=true):=by show∀v∈cs,v.oneCell'=true;rw[u];exact Jf _
   have p:(Tryz.prog.info? 78).map (·.size)=some cs.length:=by rw[t];kernel_rfl
   have aa:Hid _:=t;have ab:Hid _:=u;have M:=Tryz.underlying78;have HR:Hid _:=zy B.b2;have U:Hid _:=B.b1;clear t u;go_wp2_with (first
    |(refine nM rfl 78 (.tmp 3) rfl N 0 rfl cs _ HR M rfl p ?_)
    |(refine wpList_store_row rfl 78 (.tmp 2) (.tmp 25) rfl rfl (w.heap.size+1) rfl cs Z64 78 rfl U (by rw[zN];exact aa) p Z ?_;intro wg ae af))
   have V:Hid _:=B.ch.step af;have ag:(loadVar 78 (zd (w.heap.size+1))).run Tryz.prog wg= .ok (.agg cs.toArray) wg:=nd _ _ _ _ cs _ (zy ae) M rfl p;go_wp2;exact mT (v:= .agg cs.toArray) (zH Tryz.results117 rfl ag) rfl ⟨by rw[ab.out];rfl,V⟩
theorem Vj {P:Program}{ops:Array Oper}{rest:List Oper}(r:o.guard=none)(d s:Operand)(q x:TypeId)
  (B:o.op= .call {callee:= .builtin .copy,args:= #[d,s],argTypes:= #[q,x]}) (c:TypeId) (C:P.underlying q=some (.slice c)) (u:(P.info? c).map (·.size)=some 1)
  (g i b k:Nat) (p:Addr) (e l:Nat) (y:a.eval d= .slice (some ⟨g,i,none⟩) b k) (hs:a.eval s= .slice (some p) e l)
  (f:List Value) (t:TypeId) (z:w.heap[g]?=some (zi f.toArray t)) (cs:List Value) (A:cs.length=Nat.min e b)
  (n: ∀j v,cs[j]?=some v→w.cell? (p.add j)=some v) (m:i+cs.length≤f.length) (h1: ∀v∈cs,v.oneCell'=true)
  (h: ∀w',Hid (w'.heap[g]?=some (zi (splice f i cs).toArray t))→zr g (g+1) w w'→wpList P ops Q rest (a.put o.dst (goInt cs.length)) w'):wpList P ops Q (o::rest) a w:=
 oV r fun _ hK=>jY d s q x B c C u g i b k p e l y hs f t z cs A n m h1 fun w' h1 h2=>hK _ _ (h w' h1 h2)
theorem J3 (w:World)(c q:Int)(ts:List (Int×Bool))(b f cap:Nat)(hi:c≤9223372036854775807)(hq:q≤9223372036854775807)(o:(zx c 2).length=2)(y:(zx q 4).length=4)(hl:ts.length≤17)
  (O: ∀x∈ts,0≤x.1∧x.1<2048) (h1: ∀i,i<ts.length→w.cell? ⟨b,f+i*2,none⟩=some (za (ts.getD i (0,false)).1)∧w.cell? ⟨b,f+i*2+1,none⟩=some (.bool (ts.getD i (0,false)).2)):
  Calls Tryz.prog 145 #[.agg #[zb 106,zb 108,zb 111,zb 103,za 2,za c,za q,.slice (some ⟨b,f,none⟩) ts.length cap]] w fun e w'=>e= .returned (.agg ((qk (zD 2 c q++zP ts)).map (Value.int .u8)).toArray)∧zr 0 0 w w':=by
 have HG:Hid (∀x∈ts,0≤x.1∧x.1<2048):=O;have H1:Hid (∀i,i<ts.length→w.cell? ⟨b,f+i*2,none⟩=some (za (ts.getD i (0,false)).1)∧w.cell? ⟨b,f+i*2+1,none⟩=some (.bool (ts.getD i (0,false)).2)):=h1;clear O h1;obtain⟨lv,L⟩: ∃lv,lv=Value.slice (some ⟨b,f,none⟩) ts.length cap:=⟨_,rfl⟩;have ak:Hid (lv=Value.slice (some ⟨b,f,none⟩) ts.length cap):=L;rw[←L];clear L;have J:=fun w=>QS w 106 108 111 103 2 c q zk zk hi hq o y
 have ar:Hid ((zx c 2).length=2):=o;have au:Hid ((zx q 4).length=4):=y;rw[YU o y] at J;have HY:Hid ((zD 2 c q).length=12):=jH o y;obtain⟨bs,j⟩: ∃bs,Hid (bs=jL (zD 2 c q)):=⟨_,rfl⟩;have H:Hid (bs.length=64):=by show _=_;rw[j.out];exact jq (by rw[HY.out];omega)
 have HV:Hid (∀v∈bs,v.oneCell'=true):=by show∀v∈bs,v.oneCell'=true;rw[j.out];exact Jf _
 rw[←j.out] at J;have V:(Tryz.prog.info? 78).map (·.size)=some bs.length:=by rw[H.out];kernel_rfl
 obtain⟨z1,z2,z3⟩:=zU w (jO 235 2 c q lv) (zi Z64.toArray 78);have Z:zr 0 0 w ((w.alloc (jO 235 2 c q lv)).alloc (zi Z64.toArray 78)):=(zr.al w).alloc _;have HZ:Hid (_∧_∧_∧_):=⟨z1,z2,z3,Z⟩;clear z1 z2 z3 Z o y;go_enter Tryz.func145,Tryz.ntmps145;go_wp2_with fail;simp only[qd];generalize ((w.alloc (jO 235 2 c q lv)).alloc (zi Z64.toArray 78))=wa at*;refine(J wa).mono ?_;rintro e X ⟨rfl,K⟩;have HE:Hid (Enc w (X.alloc (zi Z64.toArray 78)) X.heap.size (jO 235 2 c q lv) Z64):=by
  obtain⟨z1,z2,z3,Z⟩:=HZ.out;have s2:=K.size;have a:zr 0 0 wa (X.alloc (zi Z64.toArray 78)):=K.alloc _;exact⟨a.bt z2,a.bt z3,zt _ _,zk,Z.trans a⟩
 clear J K HZ;have O:=HE.b2;rw[←qd] at O;have Hg:Hid (_=_):=O;clear O;go_upto_region 2 with(first
  |(refine wpList_store_row rfl 78 (.tmp 3) (.tmp 9) rfl rfl X.heap.size rfl bs _ 78 rfl Hg (by rw[H.out];rfl) V HV ?_;intro w3 m a))
 simp only[qd] at a;clear Hg;have h:Hid _:=HE.put a m;have aw:=h.lo;generalize X.heap.size=N at*;clear m a HE;rw[j.out] at h;clear j H HV V;have k7:w3.cell? ⟨w.heap.size,7,none⟩=some (.slice (some ⟨b,f,none⟩) ts.length cap):=by
  have hb:=h.b0;simp[World.cell?,hb,ak.out]
 go_wp2;go_loopw [13] (fun x wr=> ∃k:Nat,k≤ts.length∧x=za k∧Enc w wr N (jO 235 2 c q lv) (jL (zD 2 c q++zP (ts.take k)))) (fun x _=>ts.length-(intOf x).toNat)
 case atStart=>exact⟨0,mX _,rfl,by rw[oI];show Enc _ _ _ _ (jL (_++ []));rw[nw];exact h.out⟩
 case round=>
  obtain⟨k,hk,rfl,E⟩:=hrel;by_cases u:k<ts.length
  ·obtain⟨r1,r2⟩:=H1.out k u;have c1:=E.ch.cell r1;have Q:=E.ch.cell r2;clear r1 r2;have hx:ts.getD k (0,false)=ts[k]:=by simp[u]
   have hi':(k:Int)<(ts.length:Int):=zk;have C:=HG.out _ (nj u);rw[←hx] at C;have h2:=Zc C;have ax:=C.2;have D:(zD 2 c q++zP (ts.take k)).length=12+3*k:=by rw[mL,HY.out,Jr (fun x hx=>HG.out x (ot hx)),mW,ol hk]
   have ae:Hid (splice (jL (zD 2 c q++zP (ts.take k))) (12+3*k) ((zx (ts.getD k (0,false)).1 2).map (Value.int .u8))=jL (zD 2 c q++zP (ts.take k)++zx (ts.getD k (0,false)).1 2)):=by
    show _=_;rw[←D];exact YW _ _
   have t:(zD 2 c q++zP (ts.take k)++zx (ts.getD k (0,false)).1 2).length=12+3*k+2:=by rw[mL,D,h2]
   have af:Hid ((ts.getD k (0,false)).2=true→(jL (zD 2 c q++zP (ts.take k)++zx (ts.getD k (0,false)).1 2)).set (12+3*k+2) (zb 1)=jL (zD 2 c q++zP (ts.take (k+1)))):=by
    show _→_;intro he;rw[←t,gS (by rw[t];omega),Yi u];unfold XF;rw[mM he,←nk,←nk]
   have ag:Hid ((ts.getD k (0,false)).2=false→jL (zD 2 c q++zP (ts.take k)++zx (ts.getD k (0,false)).1 2)=jL (zD 2 c q++zP (ts.take (k+1)))):=by
    show _→_;intro he;rw[El (by rw[t];omega),Yi u];unfold XF;rw[mN (by rw[he];simp),←nk,←nk]
   have HL:Hid ((jL (zD 2 c q++zP (ts.take k))).length=64):=jq (by rw[D];omega);have ac:Hid ((jL (zD 2 c q++zP (ts.take k)++zx (ts.getD k (0,false)).1 2)).length=64):=jq (by rw[t];omega);have H2:Hid _:=h2;have HO:Hid _:=E;generalize jL (zD 2 c q++zP (ts.take k))=cur at*;generalize jL (zD 2 c q++zP (ts.take k)++zx (ts.getD k (0,false)).1 2)=d at*;clear hx C h2 D t E k7;generalize (ts.getD k (0,false)).1=x at*
   generalize (ts.getD k (0,false)).2=S at*;have q1:(0:Int)≤12+(k:Int)*3:=zk;have q2:12+(k:Int)*3≤64:=zk;have q3:(12+(k:Int)*3).toNat=12+3*k:=zk;have q5: ¬(64:Nat)=12+3*k:=zk;have q4:IntKind.i64.wrap ((k:Int)*3)=(k:Int)*3:=by rw[mS];omega
   have q6:IntKind.i64.wrap (12+(k:Int)*3)=12+(k:Int)*3:=by rw[mS];omega
   have P:Hid (Enc w (wr.alloc (zi #[za x,.bool S] 174)) N (jO 235 2 c q lv) cur):=HO.chg (zr.al wr);have I:Hid ((wr.alloc (zi #[za x,.bool S] 174)).heap[wr.heap.size]?=some (zi #[za x,.bool S] 174)):=zt _ _;have ap:=HO.lt;clear HO;go_upto_region 6 with fail;generalize wr.alloc (zi #[za x,.bool S] 174)=wa at*;obtain⟨d0,d1,_,_⟩:=zw I;have av:=(zE I);have J:=jM wa x 2;clear c1 Q;go_wp2_with fail;refine J.mono ?_
   rintro e x2 ⟨r,rfl,o2,Q⟩;have HO2:Hid _:=P.chg Q;have R:=Q.cell d1;obtain⟨g,gc,rfl,n⟩:=o2.two H2 zk zk;have l:Hid _:=n;clear J o2 Q n P I d0 d1;go_wp2_with (refine Vj rfl (.tmp 22) (.tmp 25) 22 22 rfl 5 Tryz.underlying22 zl N (12+3*k) (64-(12+3*k)) (64-(12+3*k)) (zd g) 2 gc rfl rfl cur 78 HO2.out.b2 ((zx x 2).map (Value.int .u8)) (by rw[mO,H2.out];exact(ol zk).symm) l.out (by rw[mO,H2.out,HL.out];omega) (nf _ _) ?_)
   intro M m a;have G:Hid (Enc w M N (jO 235 2 c q lv) d):=by show Enc _ _ _ _ _;rw[←ae.out];exact HO2.out.put a m.out
   have d1:=a.cell R;clear m a l HO2 R
   cases S with
   |true=>
    have z:=G.b2;have ad:Hid (d.set (12+3*k+2) (zb 1)=jL (zD 2 c q++zP (ts.take (k+1)))):=af.out rfl;obtain⟨cv,U⟩: ∃cv,d[12+3*k+2]?=some cv:=⟨_,mZ (by rw[ac.out];omega)⟩;have ce:=qR.cell (w:=M) (b:=N) (T:=78) (cs:=d) z (12+3*k+2) U;have cf:=qR.frozen (w:=M) (b:=N) (T:=78) (cs:=d) z (12+3*k+2);have aq:(2:Int)<((64-(12+3*k):Nat):Int):=zk;have HO4:Hid (Enc w (M.setCell ⟨N,12+3*k+2,none⟩ (zb 1)) N (jO 235 2 c q lv) (jL (zD 2 c q++zP (ts.take (k+1))))):=by
     show Enc _ _ _ _ _;rw[←ad.out];exact G.put (zr.setCell (zr.refl _ _ M) (p:=⟨N,12+3*k+2,none⟩) (Or.inl ⟨mP _,m5 _⟩) _) (qR.put (w:=M) (b:=N) (T:=78) (cs:=d) z (12+3*k+2) (zb 1))
    clear z U;go_wp2;go_roundw
    case rel=>exact⟨k+1,zk,by go_num,HO4.out⟩
    case measure=>simp[intOf];omega
   |false=>
    have HO4:Hid (Enc w M N (jO 235 2 c q lv) (jL (zD 2 c q++zP (ts.take (k+1))))):=by
     show Enc _ _ _ _ _;rw[←ag.out rfl];exact G
    go_wp2;go_roundw
    case rel=>exact⟨k+1,zk,by go_num,HO4.out⟩
    case measure=>simp[intOf];omega
  ·obtain rfl:k=ts.length:=zk;rw[nV] at E;have A:=jq (Y:=zD 2 c q++zP ts) (by rw[mL,HY.out,Jr HG.out];omega);obtain⟨cs,B⟩: ∃cs,cs=jL (zD 2 c q++zP ts):=⟨_,rfl⟩;rw[←B] at E A;have F:Hid _:=E;generalize wr=wf at*;clear E h k7;have ah:Hid (∀v∈cs,v.oneCell'=true):=by show∀v∈cs,v.oneCell'=true;rw[B];exact Jf _
   have s:(Tryz.prog.info? 78).map (·.size)=some cs.length:=by rw[A];kernel_rfl
   have ai:Hid _:=A;have aj:Hid _:=B;have W:=Tryz.underlying78;have HR:Hid _:=zy F.b2;have aa:Hid _:=F.b1;clear A B;go_wp2_with (first
    |(refine nM rfl 78 (.tmp 3) rfl N 0 rfl cs _ HR W rfl s ?_)
    |(refine wpList_store_row rfl 78 (.tmp 2) (.tmp 32) rfl rfl (w.heap.size+1) rfl cs Z64 78 rfl aa (by rw[zN];exact ai) s ah ?_;intro wg am an))
   have ab:Hid _:=F.ch.step an;have ao:(loadVar 78 (zd (w.heap.size+1))).run Tryz.prog wg= .ok (.agg cs.toArray) wg:=nd _ _ _ _ cs _ (zy am) W rfl s;go_wp2;exact mT (v:= .agg cs.toArray) (zH Tryz.results145 rfl ao) rfl ⟨by rw[aj.out];rfl,ab⟩
theorem UT (cs:Array Value)(w:World):(Go.method 444 201 (.agg cs) "loop.example/s01525/impl.wrong").run Tryz.prog w= .ok (226,.agg cs) w:=zl
theorem NP (w:World)(q:Int)(K:zC w lo hi .i64 (zj (some ⟨b,off,none⟩) xs.length cap) xs)(J:Vq xs)(A:1≤xs.length∧xs.length≤26)(h:1≤q∧q≤4294967295)(z:(zx (xs.length:Int) 2).length=2)(B:(zx q 4).length=4)(a:List Int)(H:a=qk (zD 3 (xs.length:Int) q++qm xs))(I:a.length=64)(G:Byt a):
  Calls Tryz.prog 151 #[.iface 201 (.agg #[zb 106,zb 108,zb 111,zb 103,za 3,za (xs.length:Int),za q,zj (some ⟨b,off,none⟩) xs.length cap]),.agg (a.map (Value.int .u8)).toArray] w fun e w'=>e= .returned .nilIface∧zr 0 0 w w':=by
 have y: ∀W,zr 0 0 w W→ ∀i,i<xs.length→W.cell? ⟨b,off+i,none⟩=some (za (xs.getD i 0)):=fun W l i hi=>by
  obtain⟨_,_,e,_,_,m⟩:=K;rcases m with m|⟨R,T,N,_,_,m⟩
  ·rw[m] at hi;simp at hi
  ·injection e with F _ _;rw[N] at F
   cases F
   exact l.cell (m i hi)
 have P:=fun W (l:zr 0 0 w W)=>gp W 3 q (K.chg l zk) J A h;have u:=fun W (l:zr 0 0 w W)=>J4 W xs.length q xs b off cap zk zk z B zk J.2 (y W l);rw[←H] at u;have S:=UT #[zb 106,zb 108,zb 111,zb 103,za 3,za (xs.length:Int),za q,zj (some ⟨b,off,none⟩) xs.length cap];have t:zr 0 0 w (w.alloc (zi (a.map (Value.int .u8)).toArray 78)):=zr.al w;have v:=zt w (zi (a.map (Value.int .u8)).toArray 78);have s:Hid (a.length=64):=I
 have C:Hid (Byt a):=G;clear H I G;obtain⟨cs,d⟩: ∃cs,cs=a.map (Value.int .u8):=⟨_,rfl⟩;rw[←d] at u t v⊢;have j:Hid (cs=a.map (Value.int .u8)):=d;clear d;go_enter Tryz.func151,Tryz.ntmps151;go_wp2_with fail;refine(P _ t).mono ?_;rintro e L ⟨rfl,D⟩;have x:=(D.bk _ (zE v)).trans v;have p:Hid _:=t.trans D;go_upto_region 4 with fail;have c:L.drew.heap[w.heap.size]?=some (zi cs.toArray 78):=x;have g:Hid _:=p.drew
 refine hRg (fun M=>M.heap[w.heap.size]?=some (zi cs.toArray 78)) ?_;generalize L.drew=Q at*;refine hTk 0 (.iface 201 (.agg #[zb 106,zb 108,zb 111,zb 103,za 3,za (xs.length:Int),za q,zj (some ⟨b,off,none⟩) xs.length cap])) rfl (fun w' f=>zm) c ?_;go_simp;have n:(Tryz.prog.info? 78).map (·.size)=some cs.length:=by rw[j.out,mO,s.out];kernel_rfl
 have o:=Tryz.underlying78;refine zI 2 (.agg cs.toArray) rfl zl zl zl (fun _ _ _ h=>h) (nl zl 78 (.tmp 3) rfl w.heap.size 0 rfl cs _ (fun w' f=>zy f) o rfl n) c ?_;go_simp;refine hOn 1 rfl ?_;refine zv 117 #[.agg #[zb 106,zb 108,zb 111,zb 103,za 3,za (xs.length:Int),za q,zj (some ⟨b,off,none⟩) xs.length cap]] zq (u Q g.out) ?_;rintro e U ⟨rfl,E⟩;have k:=(E.bk _ (zE c)).trans c;have r:Hid _:=g.trans E
 have O: ∀W,(Op.equalIn 10000 78 (.agg cs.toArray) (.agg cs.toArray)).run Tryz.prog W= .ok true W:=fun W=>by
  rw[j.out,jG W _ 64 o C.out C.out s.out s.out,mR rfl]
 refine⟨_,rfl,k,?_⟩;go_simp;refine hTk 3 (.bool false) rfl (fun w' f=>zm) k ?_;go_simp;refine hDn ?_;go_wp2;go_ret;exact⟨rfl,r⟩
theorem US (cs:Array Value)(w:World):(Go.method 444 235 (.agg cs) "loop.example/s01525/impl.wrong").run Tryz.prog w= .ok (227,.agg cs) w:=zl
theorem NO (w:World)(q:Int)(a: ∀i,i<ts.length→w.cell? ⟨b,off+i*2,none⟩=some (za (ts.getD i (0,false)).1)∧w.cell? ⟨b,off+i*2+1,none⟩=some (.bool (ts.getD i (0,false)).2))(J:Vq (ts.map Prod.fst))(B:1≤ts.length∧ts.length≤17)(h:1≤q∧q≤4294967295)(A:(zx (ts.length:Int) 2).length=2)(C:(zx q 4).length=4)(c:List Int)(H:c=qk (zD 2 (ts.length:Int) q++zP ts))(I:c.length=64)(G:Byt c):
  Calls Tryz.prog 151 #[.iface 235 (.agg #[zb 106,zb 108,zb 111,zb 103,za 2,za (ts.length:Int),za q,zj (some ⟨b,off,none⟩) ts.length cap]),.agg (c.map (Value.int .u8)).toArray] w fun e w'=>e= .returned .nilIface∧zr 0 0 w w':=by
 have n: ∀W,zr 0 0 w W→ ∀i,i<ts.length→W.cell? ⟨b,off+i*2,none⟩=some (za (ts.getD i (0,false)).1)∧W.cell? ⟨b,off+i*2+1,none⟩=some (.bool (ts.getD i (0,false)).2):=fun W j i hi=>⟨j.cell (a i hi).1,j.cell (a i hi).2⟩;have N:=fun W (j:zr 0 0 w W)=>gn (cap:=cap) W 2 q (n W j) J B h;have v:=fun W (j:zr 0 0 w W)=>J3 W ts.length q ts b off cap zk zk A C zk (fun x O=>J.2 x.1 (m9.2 ⟨x,O,rfl⟩)) (n W j);rw[←H] at v
 have Q:=US #[zb 106,zb 108,zb 111,zb 103,za 2,za (ts.length:Int),za q,zj (some ⟨b,off,none⟩) ts.length cap];have u:zr 0 0 w (w.alloc (zi (c.map (Value.int .u8)).toArray 78)):=zr.al w;have y:=zt w (zi (c.map (Value.int .u8)).toArray 78);have t:Hid (c.length=64):=I;have D:Hid (Byt c):=G;clear H I G;obtain⟨cs,f⟩: ∃cs,cs=c.map (Value.int .u8):=⟨_,rfl⟩;rw[←f] at v u y⊢;have l:Hid (cs=c.map (Value.int .u8)):=f
 clear f;go_enter Tryz.func151,Tryz.ntmps151;go_wp2_with fail;refine(N _ u).mono ?_;rintro e K ⟨rfl,E⟩;have z:=(E.bk _ (zE y)).trans y;have r:Hid _:=u.trans E;go_upto_region 4 with fail;have d:K.drew.heap[w.heap.size]?=some (zi cs.toArray 78):=z;have k:Hid _:=r.drew;refine hRg (fun L=>L.heap[w.heap.size]?=some (zi cs.toArray 78)) ?_;generalize K.drew=P at*;refine hTk 0 (.iface 235 (.agg #[zb 106,zb 108,zb 111,zb 103,za 2,za (ts.length:Int),za q,zj (some ⟨b,off,none⟩) ts.length cap])) rfl (fun w' g=>zm) d ?_
 go_simp;have o:(Tryz.prog.info? 78).map (·.size)=some cs.length:=by rw[l.out,mO,t.out];kernel_rfl
 have p:=Tryz.underlying78;refine zI 2 (.agg cs.toArray) rfl zl zl zl (fun _ _ _ h=>h) (nl zl 78 (.tmp 3) rfl w.heap.size 0 rfl cs _ (fun w' g=>zy g) p rfl o) d ?_;go_simp;refine hOn 1 rfl ?_;refine zv 145 #[.agg #[zb 106,zb 108,zb 111,zb 103,za 2,za (ts.length:Int),za q,zj (some ⟨b,off,none⟩) ts.length cap]] zq (v P k.out) ?_;rintro e R ⟨rfl,F⟩;have m:=(F.bk _ (zE d)).trans d;have s:Hid _:=k.trans F
 have M: ∀W,(Op.equalIn 10000 78 (.agg cs.toArray) (.agg cs.toArray)).run Tryz.prog W= .ok true W:=fun W=>by
  rw[l.out,jG W _ 64 p D.out D.out t.out t.out,mR rfl]
 refine⟨_,rfl,m,?_⟩;go_simp;refine hTk 3 (.bool false) rfl (fun w' g=>zm) m ?_;go_simp;refine hDn ?_;go_wp2;go_ret;exact⟨rfl,s⟩
theorem Tryz.infoI:(Tryz.prog.info? 2).map (fun i=>(i.zero,i.size,i.bytes))=some (some (za 0),1,8):=zl
def zM (w:World) (base:Nat) (e:TypeId) (v:Value) (xs:List Int):Prop:=w.ownsRow base e 1 v xs.length (xs.map (Value.int .i64))
theorem zM.view (h:zM w base e v xs)(j:xs.length≤9223372036854775807)(c: ∀g,v.ownBlock=some g→g<hi):zC w base hi .i64 v xs:=by
 have b:=h;obtain⟨_,h2⟩:=h;rcases h2 with⟨rfl,h0⟩|⟨g,cap,a,rfl,f,k,d,l,hs,m⟩
 ·obtain rfl:xs= []:=nT h0;exact zC.nil _ _ _ _
 ·refine⟨_,cap,rfl,j,⟨d,zn⟩,?_⟩;refine Or.inr ⟨g,0,rfl,f,c g rfl,fun i hi=>?_⟩;have:=nA b i (by simpa using hi);rw[ni,this];simp[hi]
theorem zM.chg {w':World}{l r:Nat}(h:zM w base e v xs)(c:zr l r w w')(d: ∀g,v.ownBlock=some g→g<l∨r≤g):zM w' base e v xs:=by
 obtain⟨h1,h2⟩:=h;refine⟨h1,?_⟩;rcases h2 with h2|⟨g,cap,a,f,i,b,r⟩
 ·exact Or.inl h2
 ·refine Or.inr ⟨g,cap,a,f,i,?_,r⟩;rw[c.block g (zE b) (d g (by rw[f];rfl))];exact b
theorem zM.lt (h:zM w base e v xs): ∀g,v.ownBlock=some g→base≤g∧g<w.heap.size:=np h
theorem Xn {K:Act→World→Prop}(s x:Operand)
  (H:o.op= .call {callee:= .builtin .append,args:= #[s,x],argTypes:= #[33,33]})
  (base:Nat) (p:Value) (xs:List Int) (hs:a.eval s=p) (E:zM w base 2 p xs) (f:base≤w.heap.size) (lo hi:Nat) (C:Value) (ys:List Int) (L:a.eval x=C) (J:zC w lo hi .i64 C ys) (B:0<ys.length) (N:xs.length+ys.length≤1048576)
  (h: ∀q w',zM w' base 2 q (xs++ys)→zr base w.heap.size w w'→K (a.put o.dst q) w'):o.wp Tryz.prog a w K Q:=by
 obtain⟨i,hi,t,v,z⟩:=info_parts Tryz.infoI;obtain⟨D,cap,rfl,_,_,g⟩:=J;obtain⟨b,c,rfl,F⟩: ∃b c,D=some ⟨b,c,none⟩∧ ∀i,i<ys.length→w.cell? ⟨b,c+i,none⟩=some (za (ys.getD i 0)):=by
  rcases g with e|⟨b,c,e,_,_,h3⟩
  ·rw[e] at B;simp at B
  ·exact⟨b,c,e,h3⟩
 have r: ∀j u,(ys.map (Value.int .i64))[j]?=some u→w.cell? ((⟨b,c,none⟩:Addr).add j)=some u:=by
  intro j u A;have m:j<ys.length:=by have:=(nD.1 A).1;simpa using this
  rw[Go.WideShapes.add_plain,F j m,←A];simp[m]
 have d:w.ownsRow base 2 1 p xs.length (xs.map (Value.int .i64)):=E;refine wp_append_own _ s x 33 H base 2 i (za 0) 1 8 Tryz.underlying33 hi t v z rfl zp p xs.length (xs.map (Value.int .i64)) hs d ⟨b,c,none⟩ ys.length cap (ys.map (Value.int .i64)) L zn r ?_ (by unfold maxLen;omega) zk f ?_
 ·intro u I;obtain⟨y,_,rfl⟩:=m9.1 I;rfl
 ·intro q M n l _;refine h q M ?_ (zr.ofGrown l (fun k G _=>np d k G));unfold zM;rw[mL,m6];exact n
theorem JU {ops:Array Oper}{rest:List Oper}(d:o.guard=none)(s x:Operand)
  (j:o.op= .call {callee:= .builtin .append,args:= #[s,x],argTypes:= #[33,33]})
  (base:Nat) (e:Value) (xs:List Int) (hs:a.eval s=e) (g:zM w base 2 e xs) (b:base≤w.heap.size) (lo hi:Nat) (f:Value) (ys:List Int) (l:a.eval x=f) (k:zC w lo hi .i64 f ys) (m:0<ys.length) (i:xs.length+ys.length≤1048576)
  (h: ∀c w',zM w' base 2 c (xs++ys)→zr base w.heap.size w w'→wpList Tryz.prog ops Q rest (a.put o.dst c) w'):wpList Tryz.prog ops Q (o::rest) a w:=
 wpList_plain d fun _ hK=>Xn s x j base e xs hs g b lo hi f ys l k m i fun c w' h1 h2=>hK _ _ (h c w' h1 h2)
theorem zM.at (h:zM w base e v xs)(d:0<xs.length): ∃g cap,v=zg g xs.length cap∧base≤g∧g<w.heap.size:=by
 have b:=h.lt;obtain⟨_,h2⟩:=h;rcases h2 with⟨_,h0⟩|⟨g,cap,a,rfl,c,_⟩
 ·omega
 ·exact⟨g,cap,rfl,c,(b g rfl).2⟩
theorem zM.cell (h:zM w base e (zg g n cap) xs)(b:xs.length=n)(j:Nat)(a:j<n):w.cell? ⟨g,j,none⟩=some (za (xs.getD j 0)):=by
 subst b;rw[nA h j zk,nU,mZ a];simp[mZ a]
theorem zM.none0 (w:World):zM (w.alloc (zi #[] 2)) w.heap.size 2 (zg w.heap.size 0 0) []:=by
 have:=World.ownsRow_lit (base:=w.heap.size) (e:=2) (size:=1) w #[] 0 nlR (by unfold maxLen;omega) rfl;simpa [zM] using this
theorem zu.same {w':World}(h:zu w base e v xs)(hs: ∀j,v.ownBlock=some j→w'.heap[j]?=w.heap[j]?):zu w' base e v xs:=by
 obtain⟨h1,h2⟩:=h;refine⟨h1,?_⟩;rcases h2 with h2|⟨g,cap,a,b,c,d,r⟩
 ·exact Or.inl h2
 ·exact Or.inr ⟨g,cap,a,b,c,(hs g (by rw[b];rfl)).trans d,r⟩
theorem zK {size:Nat}{xs:List Value}(h:w.ownsRow base e size v n xs){j:Nat}(b:v.ownBlock=some j): ∃a,w.heap[j]?=some (zi a e):=by
 rcases h.2 with⟨c,_⟩|⟨g,d,a,c,i,f,_⟩
 ·rw[c] at b;cases b
 ·rw[c] at b;cases b;exact⟨a,f⟩
theorem qf {i j:Nat}{c c':Array Value}{t t':TypeId}(h:w.heap[i]?=some (zi c t))(a:w.heap[j]?=some (zi c' t'))(b:t≠t'):i≠j:=by
 intro e;rw[e,a] at h;simp only[nS,Obj.cells.injEq] at h;exact b h.2.1.symm
theorem Tryz.infoI9:(Tryz.prog.info? 2).map (fun i=>(i.zero,i.size,i.bytes))=some (some (za 0),1,8):=zl
abbrev cP (n:Nat):Obj:= .cells ((List.replicate n (0:Int)).map (Value.int .i64)).toArray 2
abbrev Nq:Obj:= .cells #[zb 0,zb 0,zb 0,zb 0,za 0,za 0,za 0,zc] 201
theorem mx (n:Nat):madeCells (Value.int .i64 0).cells (n*1)=((List.replicate n (0:Int)).map (Value.int .i64)).toArray:=by
 apply rZ;rw[Nat.mul_one];show(madeCells #[Value.int .i64 0] n).toList=_;apply rC;intro j;by_cases a:j<n
 ·simp[madeCells,a,Nat.mod_one]
 ·simp[madeCells,a]
theorem Kf (n:Nat)(d:n≤1048576)(w:World):(Instr.makeSlice 33 (za n) (za n)).run Tryz.prog w= .ok (zg w.heap.size n n) (w.alloc (cP n)):=by
 obtain⟨i,hi,a,b,c⟩:=na Tryz.infoI9;have h:=run_make (P:=Tryz.prog) w 33 2 i _ Tryz.underlying33 hi a .i64 .i64 n n zk (pd _) (by rw[c];omega) zk;have e:((n:Int)).toNat=n:=zk;rw[h,b,e,mx]
theorem iY (w:World)(base n:Nat)(a:base≤w.heap.size)(b:n≤1048576):zM (w.alloc (cP n)) base 2 (zg w.heap.size n n) (List.replicate n 0):=by
 have:=nK (base:=base) (e:=2) (size:=1) w ((List.replicate n (0:Int)).map (Value.int .i64)).toArray n a (by unfold maxLen;omega) zn;unfold zM;rw[nC];exact this
theorem zM.setI (h:zM w base e (zg g n cap) xs)(a:xs.length=n)(j:Nat)(u:Int):zM (w.setCell ⟨g,j,none⟩ (za u)) base e (zg g n cap) (xs.set j u):=by
 subst a;have:=(pT h j (za u)).1;unfold zM;rw[ou,rT];exact this
structure StR (W0:World)(D:Nat)(W:World)(cs:List Value)(rs:List Int)(q:Int)(G L:Option Nat):Prop where
 sp:W.heap[D+1]?=some (zi (List.toArray [zb 106,zb 108,zb 111,zb 103,za 3,za (rs.length:Int),za q]) 146)∧W.heap[D]?=some (zi cs.toArray 78)
 ch:zr 0 0 W0 W
 lt:D+1<W0.heap.size
 ln:rs.length≤26
 row: ∀g,G=some g→zM W W0.heap.size 2 (zg g rs.length rs.length) (List.replicate rs.length 0)
 blk: ∀b,L=some b→W0.heap.size≤b∧W.heap[b]?=some (zi (List.toArray [zb 0,zb 0,zb 0,zb 0,za 0,za 0,za 0,zc]) 201)
theorem StR.chg {W':World}{G L:Option Nat}(h:StR W0 D W cs rs q G L)(c:zr 0 0 W W'):StR W0 D W' cs rs q G L:=
 ⟨⟨(c.bk _ (zE h.sp.1)).trans h.sp.1,(c.bk _ (zE h.sp.2)).trans h.sp.2⟩,h.ch.trans c,h.lt,h.ln,fun g d=>(h.row g d).chg c (fun _ _=>zk),fun b a=>⟨(h.blk b a).1,(c.bk b (rF.1 (h.blk b a).2).1).trans (h.blk b a).2⟩⟩
theorem StR.make {L:Option Nat}(h:StR W0 D W cs rs q none L):StR W0 D (W.alloc (cP rs.length)) cs rs q (some W.heap.size) L:=by
 have a:=h.chg (zr.alloc (zr.refl 0 0 W) (cP rs.length));exact⟨a.sp,a.ch,h.lt,h.ln,fun g b=>by cases b;exact iY W _ _ h.ch.size (by have:=h.ln;omega),a.blk⟩
theorem StR.alloc {G:Option Nat}(h:StR W0 D W cs rs q G none):StR W0 D (W.alloc Nq) cs rs q G (some W.heap.size):=by
 have a:=h.chg (zr.alloc (zr.refl 0 0 W) Nq);exact⟨a.sp,a.ch,h.lt,h.ln,a.row,fun b c=>by cases c;exact⟨h.ch.size,zt W _⟩⟩
structure DrR (W0:World)(D B g:Nat)(W:World)(cs:List Value)(rs:List Int)(q:Int)(k:Nat):Prop where
 sp:W.heap[D+1]?=some (zi (List.toArray [zb 106,zb 108,zb 111,zb 103,za 3,za (rs.length:Int),za q]) 146)∧W.heap[D]?=some (zi cs.toArray 78)
 ch:zr 0 0 W0 W
 lt:D+1<W0.heap.size
 low:W0.heap.size≤B∧W0.heap.size≤g
 row:zM W W0.heap.size 2 (zg g rs.length rs.length) (rs.take k++List.replicate (rs.length-k) 0)
 blk:W.heap[B]?=some (zi (List.toArray [zb 106,zb 108,zb 111,zb 103,za 3,za (rs.length:Int),za q,zg g rs.length rs.length]) 201)
theorem StR.done {wy:World}(h:StR W0 D W cs rs q (some g) (some B))(m:wy.heap[B]?=some (zi (List.toArray [zb 106,zb 108,zb 111,zb 103,za 3,za (rs.length:Int),za q,zg g rs.length rs.length]) 201))(a:zr B (B+1) W wy):DrR W0 D B g wy cs rs q 0:=by
 obtain⟨f,n⟩:=h.blk B rfl;have b:=h.row g rfl;have k:g≠B:=by
  obtain⟨d,c⟩:=zK b (j:=g) rfl;intro e;rw[e] at c;exact qf c n zp rfl
 have i:=h.lt;refine⟨⟨(a.bk _ (zE h.sp.1)).trans h.sp.1,(a.bk _ (zE h.sp.2)).trans h.sp.2⟩,h.ch.step a,h.lt,⟨f,(b.lt g rfl).1⟩,?_,m⟩;rw[oI,nG,Nat.sub_zero];exact b.chg a (fun x l=>by simp[Value.ownBlock] at l;omega)
theorem DrR.chg {W':World}(h:DrR W0 D B g W cs rs q k)(c:zr 0 0 W W'):DrR W0 D B g W' cs rs q k:=
 ⟨⟨(c.bk _ (zE h.sp.1)).trans h.sp.1,(c.bk _ (zE h.sp.2)).trans h.sp.2⟩,h.ch.trans c,h.lt,h.low,h.row.chg c (fun _ _=>zk),(c.bk _ (zE h.blk)).trans h.blk⟩
theorem DrR.len (_h:DrR W0 D B g W cs rs q k)(a:k≤rs.length):(rs.take k++List.replicate (rs.length-k) 0).length=rs.length:=by
 rw[mL,mW,nC];omega
theorem DrR.cell (h:DrR W0 D B g W cs rs q k)(a:k<rs.length):W.cell? ⟨g,k,none⟩=some (za ((rs.take k++List.replicate (rs.length-k) 0).getD k 0))∧W.frozen? ⟨g,k,none⟩=false:=by
 have b:=h.len (Nat.le_of_lt a);refine⟨h.row.cell b k a,?_⟩;have:=h.row;unfold zM at this;rw[b] at this;exact World.ownsRow.frozenAt this k
theorem DrR.put (h:DrR W0 D B g W cs rs q k)(a:k<rs.length):DrR W0 D B g (W.setCell ⟨g,k,none⟩ (za (rs.getD k 0))) cs rs q (k+1):=by
 have o:g≠B:=by
  obtain⟨f,b⟩:=zK h.row (j:=g) rfl;intro e;rw[e] at b;exact qf b h.blk zp rfl
 have m:=h.low;have n:=h.lt;have c:zr g (g+1) W (W.setCell ⟨g,k,none⟩ (za (rs.getD k 0))):=zr.setCell (p:=⟨g,k,none⟩) (zr.refl _ _ _) (Or.inl ⟨mP _,m5 _⟩) _;refine⟨⟨(c.bk _ (zE h.sp.1)).trans h.sp.1,(c.bk _ (zE h.sp.2)).trans h.sp.2⟩,h.ch.step c,h.lt,h.low,?_,(c.bk _ (zE h.blk)).trans h.blk⟩;have d:=h.row.setI (h.len (Nat.le_of_lt a)) k (rs.getD k 0);have e:(rs.take k++List.replicate (rs.length-k) 0).set k (rs.getD k 0)=rs.take (k+1)++List.replicate (rs.length-(k+1)) 0:=by
  have i:rs.length-k=(rs.length-(k+1))+1:=zk;have l:(rs.take k).length=k:=by rw[mW];omega
  rw[i,tw,sG,mN zk,l,pf,List.set_cons_zero,oy a,nk];simp[a]
 rw[e] at d;exact d
theorem zM.lowI {base':Nat}(h:zM w base e v xs)(b:base'≤base:=by omega):zM w base' e v xs:=by
 obtain⟨h1,h2⟩:=h;refine⟨h1,?_⟩;rcases h2 with h2|⟨g,cap,a,d,c,r⟩
 ·exact Or.inl h2
 ·exact Or.inr ⟨g,cap,a,d,nz b c,r⟩
theorem UZ (w:World){a:Value}{tL tM tK:TypeId}{vL vM vK:Value}(rs:List Int)(q:Int)(h1:zC w lo hi .u8 a xs)(hB:Byt xs)(hG:Za w tL tM tK vL vM vK)(y:xs.length=64)(hm:xs.take 4=mg)(t:xs.getD 4 0=3)(hh:hd7 xs= #[zb 106,zb 108,zb 111,zb 103,za 3,za (rs.length:Int),za q])(H: ∀i,i<rs.length→qI ((xs.drop (12+i*2)).take 2)=rs.getD i 0)
  (he:xs=qk (zD 3 (rs.length:Int) q++qm rs)) (hq:1≤q∧q≤4294967295) (hr:Vq rs) (hl:1≤rs.length∧rs.length≤26) (ay:(zx (rs.length:Int) 2).length=2) (aB:(zx q 4).length=4):
  Calls Tryz.prog 174 #[a] w fun e w'=> ∃g,e= .returned (.tuple #[.agg #[zb 106,zb 108,zb 111,zb 103,za 3,za (rs.length:Int),za q,zg g rs.length rs.length],.nilIface])∧zM w' w.heap.size 2 (zg g rs.length rs.length) rs∧zr 0 0 w w':=by
 have CA:zr 0 0 w (w.alloc Nq):=zr.al w;have R:=zt w Nq;have hN:=QV (w.alloc Nq) 3 (h1.chg CA zk) hB (hG.chg CA zk) y hm t;obtain⟨ao,cap,rfl,_⟩:=h1;obtain⟨cs,s⟩: ∃cs,cs=xs.map (Value.int .u8):=⟨_,rfl⟩;have L1:cs.length=64:=by rw[s];simpa using y
 have L2: ∀v∈cs,v.oneCell'=true:=by rw[s];exact nf _ _
 have I:(Tryz.prog.info? 78).map (·.size)=some cs.length:=by rw[L1];kernel_rfl
 have ap:Hid _:=L1;have aq:Hid _:=L2;rw[←s] at hN;rw[hh] at hN;have hO:=fun W=>Qg W 106 108 111 103 3 rs.length q 1 26;have F:Hid _:=H;have V:Hid (Vq rs):=hr;have HE:Hid _:=he;have HX:Hid _:=y;have K:Hid (Byt xs):=hB;have N:Hid _:=s;clear H hr he y hB hm t hh s hG L1 L2;go_enter Tryz.func174,Tryz.ntmps174;go_wp2_with fail;generalize w.alloc Nq=wa at*;refine hN.mono ?_;rintro e w2 ⟨rfl,c2⟩;have s2:=c2.size
 have aC:=(zE R);have HZ:Hid _:=(c2.bk _ aC).trans R;have HA:Hid _:=CA.trans c2;clear hN c2 CA R;obtain⟨y1,y2,y3⟩:=zU w2 (zi Z64.toArray 78) (zi z7.toArray 146);have ab:zr 0 0 w2 ((w2.alloc (zi Z64.toArray 78)).alloc (zi z7.toArray 146)):=(zr.al w2).alloc _;have Y:Hid _:=y2;have M:Hid _:=y3;have T:Hid _:=ab;clear y1 y2 y3 ab;go_upto_region 2 with(first
  |(refine wpList_store_row rfl 78 (.tmp 4) (.tmp 14) rfl rfl w2.heap.size rfl cs Z64 78 rfl (by simp only[qd];exact Y) (by rw[zN];exact ap) I aq ?_;intro w3 O j)
  |(refine wpList_store_row rfl 146 (.tmp 5) (.tmp 15) rfl rfl (w2.heap.size+1) rfl [zb 106,zb 108,zb 111,zb 103,za 3,za (rs.length:Int),za q] z7 146 rfl (by simp only[qd] at j;exact(j.bk (w2.heap.size+1) (zE M)).trans M) rfl zl (by simp[Value.oneCell']) ?_;intro aE B C))
 have s3:=j.size;have aJ:=C.size;have aH:=(zE B);have C4:zr 0 0 w2 aE:=by
  simp only[qd] at j;exact(T.step j).step C
 have l:Hid (_∧_):=⟨B,(C.bk _ (zE O)).trans O⟩;have U:Hid _:=zy B;have D:Hid _:=HA.trans C4;have Z:Hid _:=C4.bt HZ;clear O B j C C4 T Y M;go_upto_region 7 with(first
  |(refine nM rfl 146 (.tmp 5) rfl (w2.heap.size+1) 0 rfl [zb 106,zb 108,zb 111,zb 103,za 3,za (rs.length:Int),za q] _ U Tryz.underlying146 rfl zl ?_)
  |(go_at_call 187;refine(hO _).mono ?_;rintro e w4 ⟨rfl,S⟩))
 have s4:=S.size;have HH:Hid (_∧_):=⟨(S.bk _ (zE l.1)).trans l.1,(S.bk _ (zE l.2)).trans l.2⟩;have ak:Hid _:=D.trans S;have av:Hid _:=S.bt Z;have aD:w2.heap.size+1<w4.heap.size:=zk;clear S l D Z U hO;go_cut [8] (fun s8 wx=> ∃B8 g,s8=zh B8∧DrR w4 w2.heap.size B8 g wx cs rs q 0)
 case first=>
  have b:StR w4 w2.heap.size w4.drew cs rs q none none:=⟨HH,zr.drew (zr.refl 0 0 w4),aD,hl.2,fun _ e=>(by cases e),fun _ e=>(by cases e)⟩;refine hRg (fun w':World=>w'.heap[w2.heap.size+1]?=some (zi (List.toArray [zb 106,zb 108,zb 111,zb 103,za 3,za (rs.length:Int),za q]) 146)∧w'.heap[w2.heap.size]?=some (zi cs.toArray 78)) ?_;generalize w4.drew=w5 at*;refine zI 0 (.agg (List.toArray [zb 106,zb 108,zb 111,zb 103,za 3,za (rs.length:Int),za q])) rfl zl zl zl (fun _ _ _ h=>h) (nl zl 146 (.tmp 5) rfl (w2.heap.size+1) 0 rfl [zb 106,zb 108,zb 111,zb 103,za 3,za (rs.length:Int),za q] _ (fun w' c=>zy c.1) Tryz.underlying146 rfl zl) b.sp ?_
  go_simp;refine zI 1 (.agg (List.toArray [zb 106,zb 108,zb 111,zb 103,za 3,za (rs.length:Int),za q])) rfl zl zl zl (fun _ _ _ h=>h) (nl zl 146 (.tmp 5) rfl (w2.heap.size+1) 0 rfl [zb 106,zb 108,zb 111,zb 103,za 3,za (rs.length:Int),za q] _ (fun w' c=>zy c.1) Tryz.underlying146 rfl zl) b.sp ?_;go_simp;refine qY 2 5 rfl rfl rfl rfl zl ?_ ?_
  ·refine zv 127 #[.agg (List.toArray [zb 106,zb 108,zb 111,zb 103,za 3,za (rs.length:Int),za q])] zq (ZL w5 106 108 111 103 3 rs.length q) ?_;rintro e v1 ⟨rfl,t⟩;replace b:=b.chg t;clear t;refine⟨_,rfl,b.sp,?_⟩;go_simp;refine qY 3 5 rfl rfl rfl rfl zl ?_ ?_
   ·have u:=Kf rs.length zk;go_simp;clear u;replace b:=b.make;refine⟨b.sp,?_⟩;generalize v1.alloc (cP rs.length)=v2 at*;refine hTk 4 (.agg (List.toArray [zb 106,zb 108,zb 111,zb 103,za 3,za (rs.length:Int),za q,zg v1.heap.size rs.length rs.length])) rfl (fun w' c=>zm) b.sp ?_;go_simp;refine hOn 5 rfl ?_;go_simp;replace b:=b.alloc;refine⟨b.sp,?_⟩;generalize v2.alloc Nq=v3 at*;refine hOn 6 rfl ?_;refine wsR [zb 106,zb 108,zb 111,zb 103,za 3,za (rs.length:Int),za q,zg v1.heap.size rs.length rs.length] (b.blk _ rfl).2 ?_
    intro wy J G;have E:Hid _:=b.done J G;have m:Hid _:=E.sp;clear J G b;refine⟨m,hDn ?_⟩;go_wp2;go_meet;exact⟨_,_,rfl,E⟩
   ·go_simp;replace b:=b.alloc;refine⟨b.sp,?_⟩;generalize v1.alloc Nq=v4 at*;refine hOn 3 rfl ?_;have u:=Kf rs.length zk;go_simp;clear u;replace b:=b.make;refine⟨b.sp,?_⟩;generalize v4.alloc (cP rs.length)=v5 at*;refine hTk 4 (.agg (List.toArray [zb 106,zb 108,zb 111,zb 103,za 3,za (rs.length:Int),za q,zg v4.heap.size rs.length rs.length])) rfl (fun w' c=>zm) b.sp ?_;go_simp;refine hOn 6 rfl ?_;refine wsR [zb 106,zb 108,zb 111,zb 103,za 3,za (rs.length:Int),za q,zg v4.heap.size rs.length rs.length] (b.blk _ rfl).2 ?_
    intro wy J G;have E:Hid _:=b.done J G;have m:Hid _:=E.sp;clear J G b;refine⟨m,hDn ?_⟩;go_wp2;go_meet;exact⟨_,_,rfl,E⟩
  ·go_simp;replace b:=b.alloc;refine⟨b.sp,?_⟩;generalize w5.alloc Nq=v6 at*;refine hOn 2 rfl ?_;refine zv 127 #[.agg (List.toArray [zb 106,zb 108,zb 111,zb 103,za 3,za (rs.length:Int),za q])] zq (ZL v6 106 108 111 103 3 rs.length q) ?_;rintro e v7 ⟨rfl,t⟩;replace b:=b.chg t;clear t;refine⟨_,rfl,b.sp,?_⟩;go_simp;refine hOn 3 rfl ?_;have u:=Kf rs.length zk;go_simp;clear u;replace b:=b.make;refine⟨b.sp,?_⟩
   generalize v7.alloc (cP rs.length)=v8 at*;refine hTk 4 (.agg (List.toArray [zb 106,zb 108,zb 111,zb 103,za 3,za (rs.length:Int),za q,zg v7.heap.size rs.length rs.length])) rfl (fun w' c=>zm) b.sp ?_;go_simp;refine hOn 6 rfl ?_;refine wsR [zb 106,zb 108,zb 111,zb 103,za 3,za (rs.length:Int),za q,zg v7.heap.size rs.length rs.length] (b.blk _ rfl).2 ?_;intro wy J G;have E:Hid _:=b.done J G;have m:Hid _:=E.sp
   clear J G b;refine⟨m,hDn ?_⟩;go_wp2;go_meet;exact⟨_,_,rfl,E⟩
 case rest=>
  obtain⟨B8,g,rfl,f⟩:=hcut;generalize wc=w9 at*;have ae: ∀(W:World) (k:Nat),k<rs.length→W.heap[w2.heap.size]?=some (zi cs.toArray 78)→Calls Tryz.prog 150 #[zj (some ⟨w2.heap.size,12+k*2,none⟩) 2 (64-(12+k*2))] W fun e w'=>e= .returned (za (rs.getD k 0))∧zr 0 0 W w':=fun W k t hW=>by
   have af:((xs.drop (12+k*2)).take 2).length=2:=by rw[mW,m8,HX.out];omega
   have hv:zC W w2.heap.size (w2.heap.size+1) .u8 (zj (some ⟨w2.heap.size,12+k*2,none⟩) 2 (64-(12+k*2))) ((xs.drop (12+k*2)).take 2):=by
    refine⟨_,_,by rw[af],zk,⟨zk,zn⟩,Or.inr ⟨w2.heap.size,12+k*2,rfl,mP _,m5 _,fun i hi=>?_⟩⟩;rw[af] at hi;simp only[World.cell?,hW];rw[N.out];have y:=HX.out;simp[hi,y,show 12+k*2+i<64 by omega]
   have:=Zd W ((K.drop (12+k*2)).take 2) hv;rw[F.out k t] at this;exact this.mono fun e w' h=>⟨h.1,h.2.chg 0 0⟩
  have aj:Hid (∀W,DrR w4 w2.heap.size B8 g W cs rs q rs.length→Calls Tryz.prog 151 #[.iface 201 (.agg (List.toArray [zb 106,zb 108,zb 111,zb 103,za 3,za (rs.length:Int),za q,zg g rs.length rs.length])),.agg cs.toArray] W fun e w'=>e= .returned .nilIface∧zr 0 0 W w'):=fun W h=>by
   have d:=h.row;rw[nV,pf,rK,nw] at d;have hv:=d.view zk (fun x y=>(d.lt x y).2);have:=NP W q hv V hl hq ay aB xs HE HX K;rw[←N.out] at this;exact this
  have an:Hid _:=ae;clear ae F HE HX K N V;obtain⟨k0,k1,k2,k3,k4,k5,k6,k7⟩:=eight f.blk;go_wp2_with fail;clear k0 k1 k2 k3 k4 k5 k6 k7;go_loopw [35,9,10] (fun x _ _ wr=> ∃k:Nat,k≤rs.length∧x=za k∧DrR w4 w2.heap.size B8 g wr cs rs q k) (fun x _ _ _=>rs.length-(RowKit.intOf x).toNat)
  case atStart=>exact⟨0,mX _,rfl,f⟩
  case round=>
   clear f;obtain⟨k,t,rfl,f⟩:=hrel;by_cases Q:k<rs.length
   ·have az:(k:Int)<(rs.length:Int):=zk;go_upto_region 12 with fail;have HS:Hid ((fun w':World=>w'.heap[B8]?=some (zi (List.toArray [zb 106,zb 108,zb 111,zb 103,za 3,za (rs.length:Int),za q,zg g rs.length rs.length]) 201)∧w'.heap[w2.heap.size]?=some (zi cs.toArray 78)) wr.drew):=⟨f.blk,f.sp.2⟩;have o:=f.chg (zr.drew (zr.refl 0 0 wr));obtain⟨z,Hz⟩: ∃z,Hid (z=rs.getD k 0):=⟨_,rfl⟩;have ad:=an.out wr.drew k Q f.sp.2
    rw[←Hz.out] at ad;have e1:IntKind.i64.wrap (12+(k:Int)*2+2)=12+(k:Int)*2+2:=by rw[mS];omega
    have e2:(12+(k:Int)*2).toNat=12+k*2:=zk;have e3:(12+(k:Int)*2+2).toNat=12+k*2+2:=zk;have e4: ¬(12+(k:Int)*2<0):=zk;have e5:12+(k:Int)*2≤12+(k:Int)*2+2:=zk;have e6:12+(k:Int)*2+2≤64:=zk;have ag: ∀W:World,(Instr.sliceAt 78 (zh w2.heap.size) (some (za (12+(k:Int)*2))) (some (za (12+(k:Int)*2+2))) none).run Tryz.prog W= .ok (zj (some ⟨w2.heap.size,12+k*2,none⟩) 2 (64-(12+k*2))) W:=fun W=>by
     have ha:Tryz.prog.arrayLen 78=64:=zl;have h:=run_sliceAt_array_lh (P:=Tryz.prog) W 78 (zd w2.heap.size) zl .i64 .i64 (12+(k:Int)*2) (12+(k:Int)*2+2) zk zk (by rw[ha];omega);have hz:(sizeOf (Tryz.prog.elem 78)).run Tryz.prog W= .ok 1 W:=zl;rw[h,hz,ha,e2,e3];show Result.ok (slicedAt _ _ _ _ _) W=_;unfold slicedAt;rw[mN zk,Nat.mul_one,n9,ni,show 12+k*2+2-(12+k*2)=2 by omega]
    refine hRg (fun w':World=>w'.heap[B8]?=some (zi (List.toArray [zb 106,zb 108,zb 111,zb 103,za 3,za (rs.length:Int),za q,zg g rs.length rs.length]) 201)∧w'.heap[w2.heap.size]?=some (zi cs.toArray 78)) ?_;clear f;generalize wr.drew=wd at*;refine hT2 0 (.pointer (some ⟨B8,7,none⟩)) rfl ?_;go_simp;refine hTk 1 (zg g rs.length rs.length) rfl (fun w' c=>by obtain⟨k0,k1,k2,k3,k4,k5,k6,k7⟩:=eight c.1;go_simp) HS.out ?_
    go_simp;refine hT2 2 (za k) rfl ?_;go_simp;refine hT2 3 (za (12+(k:Int)*2)) rfl ?_;go_simp;refine hT2 4 (za (12+(k:Int)*2)) rfl ?_;go_simp;refine hT2 5 (za (12+(k:Int)*2+2)) rfl ?_;go_simp;refine hTk 6 (zj (some ⟨w2.heap.size,12+k*2,none⟩) 2 (64-(12+k*2))) rfl (fun w' c=>by have:=ag w';go_simp) HS.out ?_;go_simp;refine hOn 7 rfl ?_;refine zv 150 #[zj (some ⟨w2.heap.size,12+k*2,none⟩) 2 (64-(12+k*2))] zq ad ?_
    rintro e wn ⟨rfl,cn⟩;have hDn:=o.chg cn;have L:Hid (_∧_):=⟨hDn.blk,hDn.sp.2⟩;refine⟨_,rfl,L,?_⟩;clear cn o HS ag e1 e2 e3 e4 e5 e6;go_simp;refine hTk 8 (.pointer (some ⟨g,k,none⟩)) rfl (fun w' c=>zm) L.out ?_;go_simp;refine hOn 9 rfl ?_;obtain⟨ax,aI⟩:=hDn.cell Q;have p:=hDn.put Q;rw[←Hz.out] at p;have HDp:Hid _:=p;have au:Hid (_∧_):=⟨p.blk,p.sp.2⟩;clear hDn p L;go_simp;refine⟨au,hDn ?_⟩;go_wp2
    go_roundw
    case rel=>exact⟨k+1,zk,by go_num,HDp.out⟩
    case measure=>simp[RowKit.intOf];omega
   ·obtain rfl:k=rs.length:=zk;have az: ¬((rs.length:Int)<(rs.length:Int)):=zk;have s9:=f.ch.size;have aG:=f.lt;have HS:Hid ((fun w':World=>w'.heap[B8]?=some (zi (List.toArray [zb 106,zb 108,zb 111,zb 103,za 3,za (rs.length:Int),za q,zg g rs.length rs.length]) 201)∧w'.heap[w2.heap.size]?=some (zi cs.toArray 78)) wr.drew):=⟨f.blk,f.sp.2⟩;have o:=f.chg (zr.drew (zr.refl 0 0 wr));have aa:wr.drew.heap[w.heap.size]?=some (zi (List.toArray [zb 0,zb 0,zb 0,zb 0,za 0,za 0,za 0,zc]) 201):=f.ch.bt av
    have ai:Hid _:=(ak.trans f.ch).drew;clear f;go_upto_region 14 with fail;refine hRg (fun w':World=>w'.heap[B8]?=some (zi (List.toArray [zb 106,zb 108,zb 111,zb 103,za 3,za (rs.length:Int),za q,zg g rs.length rs.length]) 201)∧w'.heap[w2.heap.size]?=some (zi cs.toArray 78)) ?_;generalize wr.drew=wd at*;refine zI 0 (.agg (List.toArray [zb 106,zb 108,zb 111,zb 103,za 3,za (rs.length:Int),za q,zg g rs.length rs.length])) rfl zl zl zl (fun _ _ _ h=>h) (nl zl 201 (.tmp 8) rfl B8 0 rfl [zb 106,zb 108,zb 111,zb 103,za 3,za (rs.length:Int),za q,zg g rs.length rs.length] _ (fun w' c=>zy c.1) Tryz.underlying201 rfl zl) HS ?_
    go_simp;refine zI 1 (.agg (List.toArray [zb 106,zb 108,zb 111,zb 103,za 3,za (rs.length:Int),za q,zg g rs.length rs.length])) rfl zl zl zl (fun _ _ _ h=>h) (nl zl 201 (.tmp 8) rfl B8 0 rfl [zb 106,zb 108,zb 111,zb 103,za 3,za (rs.length:Int),za q,zg g rs.length rs.length] _ (fun w' c=>zy c.1) Tryz.underlying201 rfl zl) HS ?_;go_simp;refine hT2 2 (.iface 201 (.agg (List.toArray [zb 106,zb 108,zb 111,zb 103,za 3,za (rs.length:Int),za q,zg g rs.length rs.length]))) rfl ?_
    go_simp;refine zI 3 (.agg cs.toArray) rfl zl zl zl (fun _ _ _ h=>h) (nl zl 78 (.tmp 4) rfl w2.heap.size 0 rfl cs _ (fun w' c=>zy c.2) Tryz.underlying78 rfl I) HS ?_;go_simp;refine hOn 4 rfl ?_;refine zv 151 #[.iface 201 (.agg (List.toArray [zb 106,zb 108,zb 111,zb 103,za 3,za (rs.length:Int),za q,zg g rs.length rs.length])),.agg cs.toArray] zq (aj.out wd o) ?_;rintro e we ⟨rfl,ce⟩;have se:=ce.size
    have A:=o.chg ce;have n:Hid (_∧_):=⟨A.blk,A.sp.2⟩;have ah:=(ce.bk _ (zE aa)).trans aa;refine⟨_,rfl,n,?_⟩;go_simp;refine hOn 5 rfl ?_;refine wsR [zb 106,zb 108,zb 111,zb 103,za 3,za (rs.length:Int),za q,zg g rs.length rs.length] ah ?_;intro wf ac r;have aF:=A.low;have X:Hid (_∧_):=⟨(r.bk _ (zE n.1)).trans n.1,(r.bk _ (zE n.2)).trans n.2⟩;have aw:Hid _:=ac;have am:Hid _:=(ai.trans ce).step r;have ar:Hid (zM wf w.heap.size 2 (zg g rs.length rs.length) rs):=by
     have d:=A.row;rw[nV,pf,rK,nw] at d;exact(d.chg r (fun x y=>by simp[Value.ownBlock] at y;omega)).lowI
    refine⟨X,?_⟩;clear ac r ce ah;go_simp;refine hOn 6 rfl ?_;refine jb (v:= .nilIface) (w':=wf) zq ⟨X.out,?_⟩;go_simp;refine hDn ?_;go_wp2;have aA:(loadVar 201 (zd w.heap.size)).run Tryz.prog wf= .ok (.agg (List.toArray [zb 106,zb 108,zb 111,zb 103,za 3,za (rs.length:Int),za q,zg g rs.length rs.length])) wf:=nd _ _ _ _ [zb 106,zb 108,zb 111,zb 103,za 3,za (rs.length:Int),za q,zg g rs.length rs.length] _ (zy aw) Tryz.underlying201 rfl zl
    exact mT (v:= .tuple #[.agg (List.toArray [zb 106,zb 108,zb 111,zb 103,za 3,za (rs.length:Int),za q,zg g rs.length rs.length]),.nilIface]) (Zo Tryz.results174 rfl rfl aA) rfl ⟨g,rfl,ar,am⟩
end Go.Proofs.YthdeofoleiiibaaGreatDoor
