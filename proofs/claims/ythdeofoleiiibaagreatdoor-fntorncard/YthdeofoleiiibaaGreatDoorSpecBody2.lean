import Derived.Test.YthdeofoleiiibaaGreatDoorJReadR
import Derived.Test.YthdeofoleiiibaaGreatDoorNumBackI
import Derived.Great.BuildSlice
namespace Go.Proofs.YthdeofoleiiibaaGreatDoor
open Go.RowKit
set_option maxRecDepth 100000
set_option maxHeartbeats 16000000
variable {xs rs:List Int}{w w':World}{lo hi base n k:Nat}{q:Int}{v a:Value}{ts:List (Int×Bool)}{α:Type}{e:TypeId}{row:Option Nat}
theorem Uv {l:List Int}(h:l.length=2): ∃a b,l= [a,b]:=by
 match l,h with
 | [a,b],_=>exact⟨a,b,rfl⟩
theorem E8 {l:List Int}(h:l.length=4): ∃a b c d,l= [a,b,c,d]:=by
 match l,h with
 | [a,b,c,d],_=>exact⟨a,b,c,d,rfl⟩
theorem Qc {k c:Int}{Y:List Int}(h:(zx c 2).length=2)(j:(zx q 4).length=4)(i:c≤9223372036854775807:=by omega)(l:q≤9223372036854775807:=by omega):
  (qk (zD k c q++Y)).take 4=mg∧(qk (zD k c q++Y)).getD 4 0=k∧hd7 (qk (zD k c q++Y))= #[zb 106,zb 108,zb 111,zb 103,za k,za c,za q]∧(qk (zD k c q++Y)).drop 12=Y++List.replicate (64-(zD k c q++Y).length) 0:=by
 have o:=jc c 2 i (by intro e;rw[e] at h;simp at h);have p:=jc q 4 l (by intro e;rw[e] at j;simp at j);obtain⟨a,b,m⟩:=Uv h;obtain⟨d,e,f,g,n⟩:=E8 j;rw[m] at o;rw[n] at p;unfold qk zD;rw[m,n];refine⟨?_,?_,?_,?_⟩
 ·simp[mg]
 ·simp[mg]
 ·unfold hd7;simp[mg,o,p]
 ·simp[mg]
theorem iP (w:World){tL tM tK:TypeId}{vL vM vK:Value}(c q s:Int)(h1:zC w lo hi .u8 a (qk (zD 4 c q++zx s 4)))(m:Byt (qk (zD 4 c q++zx s 4)))(n:Za w tL tM tK vL vM vK)(g:1≤q∧q≤4294967295∧1≤c∧c≤511)(hs:0≤s∧s≤4294967295):
  Calls Tryz.prog 176 #[a] w fun e w'=>e= .returned (.tuple #[.agg #[zb 106,zb 108,zb 111,zb 103,za 4,za c,za q,za s],.nilIface])∧zr 0 0 w w':=by
 have d:=pn2 (v:=c);have f:=pn4 (v:=q) zk g.2.1;have b:=pn4 (v:=s) hs.1 hs.2;obtain⟨h,i,j,l⟩:=Qc (k:=4) (Y:=zx s 4) d f;have o:(qk (zD 4 c q++zx s 4)).length=64:=by
  unfold qk;rw[mL,nC,mL,jH d f,b]
 refine UY w c q s h1 m n o h i j ?_ rfl g hs d f b;rw[l,oG zk,ny zk];exact jc s 4 zk (by intro e;rw[e] at b;simp at b)
theorem jd (w:World)(v:Int):Calls Tryz.prog 135 #[za v] w fun e w'=>e= .returned (.bool (decide (0≤v)&&decide (v<2048)))∧w'=w:=by
 by_cases h1:0≤v
 ·by_cases h2:v<2048
  ·rw[mR h1,mR h2];go_enter Tryz.func135,Tryz.ntmps135;go_wp2;go_ret;exact⟨rfl,rfl⟩
  ·rw[mR h1,mY h2];go_enter Tryz.func135,Tryz.ntmps135;go_wp2;go_ret;exact⟨rfl,rfl⟩
 ·rw[mY h1];go_enter Tryz.func135,Tryz.ntmps135;go_wp2;go_ret;exact⟨rfl,rfl⟩
abbrev n7:= @Bool.eq_false_iff
abbrev pD:= @wp_loop_rounds
def fol (last v:Int):Bool:=decide (last<v)&&decide (v<2048)
def qH (xs:List Int) (i:Nat):Int:=if i=0 then-1 else xs.getD (i-1) 0
def z8 (xs:List Int) (n:Nat):Prop:= ∀i,i<n→fol (qH xs i) (xs.getD i 0)=true
def jv (xs:List Int):Bool:=decide (∀i,i<xs.length→fol (qH xs i) (xs.getD i 0)=true)
theorem jZ {a v:Int}:fol a v=true↔a<v∧v<2048:=by unfold fol;simp
theorem jI :jv xs=true↔z8 xs xs.length:=decide_eq_true_iff
theorem JL (a:k<xs.length)(h: ¬fol (qH xs k) (xs.getD k 0)=true):jv xs=false:=by
 rw[n7];intro e;exact h (jI.1 e k a)
theorem z8.zero (xs:List Int):z8 xs 0:=fun i h=>absurd h (nW i)
theorem z8.succ (h:z8 xs n)(a:fol (qH xs n) (xs.getD n 0)=true):z8 xs (n+1):=by
 intro i hi;by_cases e:i=n
 ·subst e;exact a
 ·exact h i zk
theorem z8.pos (h:z8 xs n): ∀i,i<n→0≤xs.getD i 0:=by
 intro i
 induction i with
 |zero=>intro hi;have:=(jZ.1 (h 0 hi)).1;simp only[qH,if_true] at this;omega
 |succ i ih=>
  intro hi;have:=(jZ.1 (h (i+1) hi)).1;rw[show qH xs (i+1)=xs.getD i 0 from by unfold qH;rw[mN zk];rfl] at this;have:=ih zk;omega
theorem UL (w:World)(xs:List Int)(b g cap:Nat)(E:xs.length≤9223372036854775807)
  (h1: ∀i,i<xs.length→w.cell? ⟨b,g+i,none⟩=some (za (xs.getD i 0))):
  Calls Tryz.prog 92 #[zj (some ⟨b,g,none⟩) xs.length cap] w fun e w'=>e= .returned (.bool (jv xs))∧qj w w':=by
 go_enter Tryz.func92,Tryz.ntmps92;go_wp2;go_loopw [3] (fun i wr=>qj w wr∧ ∃k:Nat,k≤xs.length∧i=za k∧z8 xs k) (fun i _=>xs.length-(intOf i).toNat)
 case atStart=>exact⟨qj.refl _,0,mX _,rfl,z8.zero _⟩
 case round=>
  obtain⟨d,k,D,rfl,p⟩:=hrel;by_cases m:k<xs.length
  ·have v:wr.cell? ⟨b,g+k,none⟩=some (za (xs.getD k 0)):=(d.cell _).trans (h1 k m);have hi:(k:Int)<(xs.length:Int):=zk;have q:Hid (z8 xs k):=p;have o:Hid (qj w wr):=d;by_cases r:k=0
   ·subst r;rw[oF] at v;have n:qH xs 0= -1:=rfl;have f: ¬fol (-1) (xs.getD 0 0)=true→jv xs=false:=fun h=>JL m (by rw[n];exact h);have l:fol (-1) (xs.getD 0 0)=true→z8 xs 1:=fun h=>q.succ (by rw[n];exact h);generalize xs.getD 0 0=x at*;clear p d h1 n;go_wp2_with fail;refine(jd _ x).mono ?_;rintro e B ⟨rfl,rfl⟩;by_cases c:0≤x∧x<2048
    ·have a:(decide (0≤x)&&decide (x<2048))=true:=by simpa using c
     rw[a];have Hn:Hid (z8 xs 1):=l (jZ.2 ⟨zk,c.2⟩);clear f l a c;go_wp2;go_quiet (fail);go_wp2;go_roundw
     case rel=>exact⟨o.out.drewN _,1,zk,by go_num,Hn.out⟩
     case measure=>simp[intOf];omega
    ·have a:(decide (0≤x)&&decide (x<2048))=false:=by rw[n7];simpa using c
     rw[a];have Hn:Hid (jv xs=false):=f (fun h=>c (by have:=jZ.1 h;omega));clear f l a c;go_wp2;go_quiet (fail);go_wp2;go_ret;exact⟨by rw[Hn.out];rfl,o.drewN _⟩
   ·obtain⟨j,rfl⟩: ∃j,k=j+1:=⟨k-1,zk⟩;have C:wr.cell? ⟨b,g+j,none⟩=some (za (xs.getD j 0)):=(d.cell _).trans (h1 j zk);have n:qH xs (j+1)=xs.getD j 0:=by unfold qH;rw[mN zk];rfl
    have s:=q.pos j zk;have f: ¬fol (xs.getD j 0) (xs.getD (j+1) 0)=true→jv xs=false:=fun h=>JL m (by rw[n];exact h);have l:fol (xs.getD j 0) (xs.getD (j+1) 0)=true→z8 xs (j+1+1):=fun h=>q.succ (by rw[n];exact h);generalize xs.getD (j+1) 0=x at*;generalize xs.getD j 0=y at*;clear p d h1 n;go_wp2_with fail;refine(jd _ x).mono ?_;rintro e B ⟨rfl,rfl⟩;by_cases c:0≤x∧x<2048
    ·have a:(decide (0≤x)&&decide (x<2048))=true:=by simpa using c
     rw[a];have z:(0:Int)<(j:Int)+1:=zk;have A:(j:Int)<(xs.length:Int):=zk;by_cases F:x≤y
     ·have Hn:Hid (jv xs=false):=f (fun h=>by have:=jZ.1 h;omega);clear f l a c;go_wp2;go_quiet (fail);go_wp2;go_ret;exact⟨by rw[Hn.out];rfl,o.drewN _⟩
     ·have Hn:Hid (z8 xs (j+1+1)):=l (jZ.2 ⟨zk,c.2⟩);clear f l a c;go_wp2;go_quiet (fail);go_wp2;go_roundw
      case rel=>exact⟨o.out.drewN _,j+1+1,zk,by go_num,Hn.out⟩
      case measure=>simp[intOf];omega
    ·have a:(decide (0≤x)&&decide (x<2048))=false:=by rw[n7];simpa using c
     rw[a];have Hn:Hid (jv xs=false):=f (fun h=>c (by have:=jZ.1 h;omega));clear f l a c;go_wp2;go_quiet (fail);go_wp2;go_ret;exact⟨by rw[Hn.out];rfl,o.drewN _⟩
  ·obtain rfl:k=xs.length:=zk;have t:=jI.2 p;have u:Hid (jv xs=true):=t;clear h1 p t;go_wp2;go_ret;exact⟨by rw[u.out];rfl,d⟩
theorem UK (w:World)(a:Option Addr)(cap:Nat):
  Calls Tryz.prog 92 #[zj a 0 cap] w fun e w'=>e= .returned (.bool true)∧qj w w':=by
 go_enter Tryz.func92,Tryz.ntmps92;go_wp2;refine pD 1 ?_;rw[rounds_succ];go_wp2;go_ret;exact⟨rfl,qj.refl _⟩
theorem J9 (w:World)(h1:zC w lo hi .i64 a xs):
  Calls Tryz.prog 92 #[a] w fun e w'=>e= .returned (.bool (jv xs))∧qj w w':=by
 obtain⟨c,cap,rfl,d,_,h1⟩:=h1;rcases h1 with rfl|⟨x,b,rfl,_,_,h1⟩
 ·rw[jI.2 (z8.zero _)];exact UK w c cap
 ·exact UL w xs x b cap d h1
theorem bM (w:World)(xs:List Int)(v:Int)(b c cap:Nat)(m:xs.length≤9223372036854775807)
  (h1: ∀i,i<xs.length→w.cell? ⟨b,c+i,none⟩=some (za (xs.getD i 0))):
  Calls Tryz.prog 93 #[zj (some ⟨b,c,none⟩) xs.length cap,za v] w fun e w'=>e= .returned (.bool (decide (v∈xs)))∧w'=w:=by
 go_enter Tryz.func93,Tryz.ntmps93;go_wp2;go_loopw [5] (fun i wr=>wr=w∧ ∃k:Nat,k≤xs.length∧i=za k∧v∉xs.take k) (fun i _=>xs.length-(intOf i).toNat)
 case atStart=>exact⟨rfl,0,mX _,rfl,zn⟩
 case round=>
  obtain⟨rfl,k,l,rfl,d⟩:=hrel;by_cases a:k<xs.length
  ·have j:wr.cell? ⟨b,c+k,none⟩=some (za (xs.getD k 0)):=h1 k a;have hi:(k:Int)<(xs.length:Int):=zk;have g:xs.getD k 0=xs[k]:=by simp[a]
   by_cases f:xs.getD k 0=v
   ·have Hn:Hid (decide (v∈xs)=true):=by show _=_;rw[pJ,←f,g];exact nj a
    have h:(xs.getD k 0==v)=true:=by simpa using f
    generalize xs.getD k 0=x at*;clear h1 g d;go_wp2;go_ret;exact⟨by rw[Hn.out];rfl,rfl⟩
   ·have Hn:Hid (v∉xs.take (k+1)):=by
     show v∉_;rw[oy a,nu,not_or];exact⟨d,by simp;rw[←g];exact fun e=>f e.symm⟩
    have h:(xs.getD k 0==v)=false:=by simpa using f
    generalize xs.getD k 0=x at*;clear h1 g d;go_wp2;go_roundw
    case rel=>exact⟨trivial,k+1,zk,by go_num,Hn.out⟩
    case measure=>simp[intOf];omega
  ·obtain rfl:k=xs.length:=zk;rw[nV] at d;have Hn:Hid (decide (v∈xs)=false):=mY d;clear h1 d;go_wp2;go_ret;exact⟨by rw[Hn.out];rfl,rfl⟩
theorem bK (w:World)(v:Int)(a:Option Addr)(cap:Nat):
  Calls Tryz.prog 93 #[zj a 0 cap,za v] w fun e w'=>e= .returned (.bool false)∧w'=w:=by
 go_enter Tryz.func93,Tryz.ntmps93;go_wp2;refine pD 1 ?_;rw[rounds_succ];go_wp2;go_ret;exact⟨rfl,rfl⟩
theorem KI (w:World)(v:Int)(h1:zC w lo hi .i64 a xs):
  Calls Tryz.prog 93 #[a,za v] w fun e w'=>e= .returned (.bool (decide (v∈xs)))∧w'=w:=by
 obtain⟨c,cap,rfl,d,_,h1⟩:=h1;rcases h1 with rfl|⟨x,b,rfl,_,_,h1⟩
 ·exact bK w v c cap
 ·exact bM w xs v x b cap d h1
theorem zu.some_of (h:zu w base e v xs)(h0:0<xs.length:=by omega): ∃g c,v=zg g xs.length c:=by
 rcases h.2 with⟨_,d⟩|⟨g,b,a,rfl,_⟩
 ·omega
 ·exact⟨g,b,rfl⟩
theorem zu.seen (h:zu w base e v xs)(b:xs.length≤1048576):zC w base w.heap.size .u8 v xs:=
 h.view zk (fun g a=>(h.lt g a).2)
theorem zu.bnil (w:World)(base:Nat)(h:base≤w.heap.size:=by omega):zu (w.alloc (zi #[] 5)) base 5 (zg w.heap.size 0 0) []:=by
 have:=World.ownsRow_lit (base:=base) (e:=5) (size:=1) w #[] 0 h (by unfold maxLen;omega) rfl;simpa [zu] using this
theorem Ji {k c:Int}(a:(zx c 2).length=2)(b:(zx q 4).length=4):(zD k c q).length=12:=by
 unfold zD mg;simp[a,b]
theorem z8.bound (h:z8 xs n)(b:xs.length≤n): ∀x∈xs,0≤x∧x<2048:=by
 intro x a;obtain⟨i,hi,rfl⟩:=r7.1 a;have h1:=h.pos i zk;have h2:=(jZ.1 (h i zk)).2;have e:xs.getD i 0=xs[i]:=by simp[hi]
 rw[e] at h1 h2;exact⟨h1,h2⟩
theorem z8.ahead {j:Nat}(h:z8 xs n)(a:j+1<n):xs.getD j 0<xs.getD (j+1) 0:=by
 have:=(jZ.1 (h (j+1) a)).1;rwa [show qH xs (j+1)=xs.getD j 0 from by unfold qH;rw[mN zk];rfl] at this
theorem Yw (w:World)(t:xs.length≤64)(h1:zC w lo hi .u8 a xs):
  Calls Tryz.prog 98 #[a] w fun e w'=> ∃v,e= .returned v∧zu w' w.heap.size 5 v (qk xs)∧zr 0 0 w w':=by
 have m:=h1;obtain⟨s,cap,rfl,_,_,_⟩:=h1;obtain⟨n,k⟩: ∃n:Nat,n=64-xs.length:=⟨_,rfl⟩;have j:Calls Tryz.prog 63 #[za (64-(xs.length:Int))] w fun e w'=> ∃g,e= .returned (zg g n n)∧zu w' w.heap.size 5 (zg g n n) (List.replicate n 0)∧zr 0 0 w w':=by
  have:=qS w n;rwa [show((n:Nat):Int)=64-(xs.length:Int) by omega] at this
 have b:Hid _:=k;clear k;go_enter Tryz.func98,Tryz.ntmps98;go_wp2_with fail;refine j.mono ?_;rintro e o ⟨g,rfl,i,d⟩;have hs:=d.size;have c:=qw (xs:=xs) (ys:=List.replicate n 0) (lo':=w.heap.size) o zk (by simp;have:=b.out;omega) (m.chg d zk) (i.view (hi:=o.heap.size) (by simp;have:=b.out;omega) (fun g h=>(i.lt g h).2));clear j i m;go_wp2_with fail;refine c.mono ?_;rintro e r ⟨v,rfl,l,f⟩;have q:Hid (zu r w.heap.size 5 v (qk xs)):=by
  show zu _ _ _ _ _;unfold qk;rw[←b.out];exact l.base (fun g h=>by have:=(l.lt g h).1;omega)
 have p:Hid _:=d.trans f;go_wp2;go_ret;exact⟨_,rfl,q,p⟩
theorem Jq (w:World)(q:Int)(xs:List Int)(b off cap:Nat)(ah:1≤q)(aa:q≤4294967295)(ae:1≤xs.length)(hl:xs.length≤26)(hR:z8 xs xs.length)
  (h1: ∀i,i<xs.length→w.cell? ⟨b,off+i,none⟩=some (za (xs.getD i 0))):
  Calls Tryz.prog 94 #[.agg #[za q,zj (some ⟨b,off,none⟩) xs.length cap]] w fun e w'=> ∃v,e= .returned v∧zu w' w.heap.size 5 v (qk (zD 3 xs.length q++qm xs))∧zr 0 0 w w':=by
 have C0:zr 0 0 w (w.alloc (zi #[za q,zj (some ⟨b,off,none⟩) xs.length cap] 166)):=zr.al w;have B0:=zt w (zi #[za q,zj (some ⟨b,off,none⟩) xs.length cap] 166);have O:=pn2 (v:=(xs.length:Int));have S:=pn4 (v:=q) zk aa;have HY:Hid ((zD 3 (xs.length:Int) q).length=12):=Ji O S;have T:=fun w=>jC w q;rw[show qA q=true from by unfold qA;rw[←Bool.decide_and];exact mR ⟨ah,aa⟩] at T;have Q:=fun w=>QB w 3 (xs.length:Int) q zk zk zk O S
 have HR:Hid (z8 xs xs.length):=hR;have H1:Hid (∀i,i<xs.length→w.cell? ⟨b,off+i,none⟩=some (za (xs.getD i 0))):=h1;have s0:(w.alloc (zi #[za q,zj (some ⟨b,off,none⟩) xs.length cap] 166)).heap.size=w.heap.size+1:=zn;obtain⟨n,hn⟩: ∃n,n=xs.length:=⟨_,rfl⟩;have Hn:Hid (n=xs.length):=hn;rw[←hn] at ae hl Q HY B0 C0 s0⊢;clear hR h1 O S hn;obtain⟨k0,k1,_,_⟩:=zw B0;go_enter Tryz.func94,Tryz.ntmps94;go_wp2_with fail
 generalize w.alloc (zi #[za q,zj (some ⟨b,off,none⟩) n cap] 166)=w0 at*;refine(T _).mono ?_;rintro e w1 ⟨rfl,rfl⟩;have af: ¬((n:Int)<1):=zk;have ag: ¬((26:Int)<(n:Int)):=zk;clear T;go_wp2_with fail;clear af ag;refine(Q _).mono ?_;rintro e a ⟨v2,rfl,G,h2⟩;have X:Hid (a.heap[w.heap.size]?=some (zi #[za q,zj (some ⟨b,off,none⟩) n cap] 166)):=h2.bt B0;obtain⟨g2,ac,rfl⟩:=G.some_of (by rw[HY.out];omega)
 rw[HY.out] at G⊢;have A:Hid (zu a (w.heap.size+1) 5 (zg g2 12 ac) (zD 3 (n:Int) q)):=G.base (fun g D=>by have:=(G.lt g D).1;omega);have u:Hid (zr 0 0 w a):=C0.trans h2;clear Q G h2 B0 C0 k0 k1;go_wp2;go_loopw [5,6] (fun o x wr=> ∃k:Nat,k≤n∧x=za k∧(∃g cp,o=zg g (12+2*k) cp)∧zu wr (w.heap.size+1) 5 o (zD 3 (n:Int) q++qm (xs.take k))∧wr.heap[w.heap.size]?=some (zi #[za q,zj (some ⟨b,off,none⟩) n cap] 166)∧zr 0 0 w wr) (fun _ x _=>n-(intOf x).toNat)
 case atStart=>exact⟨0,mX _,rfl,⟨_,_,rfl⟩,by rw[oI];show zu _ _ _ _ (_++ []);rw[nw];exact A.out,X.out,u.out⟩
 case round=>
  clear A X u;obtain⟨k,hk,rfl,⟨g,cp,rfl⟩,Z,hb,W⟩:=hrel;have H:=HR.bound nlR;have t:(zD 3 (n:Int) q++qm (xs.take k)).length=12+2*k:=by rw[mL,HY.out,Jn (fun x hx=>H x (ot hx)),mW];have:=Hn.out;omega
  by_cases an:k<n
  ·have f:k<xs.length:=by have:=Hn.out;omega
   have c1:=W.cell (H1 k f);have hi:(k:Int)<(n:Int):=zk;have hx:xs.getD k 0=xs[k]:=by simp[f]
   obtain⟨g0,g1⟩:=H _ (nj f);rw[←hx] at g0 g1;obtain⟨k0,k1,_,_⟩:=zw hb;have HC:Hid (zr 0 0 w wr):=W;have HO:Hid (zu wr (w.heap.size+1) 5 (zg g (12+2*k) cp) (zD 3 (n:Int) q++qm (xs.take k))):=Z;have HB:Hid (wr.heap[w.heap.size]?=some (zi #[za q,zj (some ⟨b,off,none⟩) n cap] 166)):=hb;have HT:Hid (zD 3 (n:Int) q++qm (xs.take (k+1))=zD 3 (n:Int) q++qm (xs.take k)++zx (xs.getD k 0) 2):=by show _=_;rw[V6 f,←nk]
   have E:Hid _:=Zc ⟨g0,g1⟩;have B:Hid _:=t;have F:=jd wr (xs.getD k 0);rw[show(decide (0≤xs.getD k 0)&&decide (xs.getD k 0<2048))=true from by rw[mR g0,mR g1];rfl] at F;have Y: ∀a:World,qj wr a→Hid (zu a (w.heap.size+1) 5 (zg g (12+2*k) cp) (zD 3 (n:Int) q++qm (xs.take k))∧a.heap[w.heap.size]?=some (zi #[za q,zj (some ⟨b,off,none⟩) n cap] 166)∧zr 0 0 w a):=fun a h=>⟨HO.chg (h.chg 0 0) (by intro g _;omega),by rw[h.heap];exact HB,HC.trans (h.chg 0 0)⟩
   have HF:Hid _:=Y;clear Y;have ab:Hid (∀j,k=j+1→wr.cell? ⟨b,off+j,none⟩=some (za (xs.getD j 0))∧xs.getD j 0<xs.getD k 0):=fun j e=>⟨W.cell (H1 j zk),by rw[e];exact HR.ahead zk⟩;generalize xs.getD k 0=y at*;generalize zD 3 (n:Int) q++qm (xs.take k)=L at*;clear Z W hx hb H t HB HC HO;go_wp2_with fail;refine F.mono ?_;rintro e a ⟨rfl,rfl⟩;by_cases ad:k=0
   ·subst ad;rw[oF] at c1;go_wp2;go_quiet (fail);go_wp2_with fail;have P:=HF.out _ ((qj.refl a).drewN nq);generalize a.drewN nq=U at*;have K:Hid (zu U (w.heap.size+1) 5 (zg g (12+2*0) cp) L):=P.out.1;have c:Hid _:=P.out.2.1;have I:Hid _:=P.out.2.2;have F:=zX U y 2;refine F.mono ?_;rintro e V ⟨r,rfl,d,C⟩;have s3:=(zE c);have s4:=C.size;have M:Hid (zu V (w.heap.size+1) 5 (zg g (12+2*0) cp) L):=K.chg C (by intro g _;omega)
    have N:Hid (zC V U.heap.size V.heap.size .u8 r (zx y 2)):=d.view (by rw[E.out];omega) (fun g D=>(d.lt g D).2);have J:Hid _:=I.trans C;have l:Hid _:=(C.bk _ (zE c)).trans c;obtain⟨r0,r1,r2,rfl⟩:=zF d;go_wp2_with (at_builtin;refine qp rfl (.tmp 61) (.tmp 67) rfl (w.heap.size+1) _ L rfl M.out zk _ _ _ (zx y 2) rfl N.out (by rw[E.out];omega) (by rw[E.out,B.out];omega) ?_);intro v' w5 R m;have HO5:Hid (zu w5 (w.heap.size+1) 5 v' (zD 3 (n:Int) q++qm (xs.take (0+1)))):=by show zu _ _ _ _ _;rw[HT.out];exact R
    have HC5:Hid _:=J.step m;have s:=(zE l);have HB5:Hid _:=(m.bk _ s).trans l;have HV5:Hid (∃g cp,v'=zg g (12+2*(0+1)) cp):=by
     have p:(zD 3 (n:Int) q++qm (xs.take (0+1))).length=12+2*(0+1):=by have e:=congrArg List.length HT.out;have e2:(L++zx y 2).length=L.length+(zx y 2).length:=mL;rw[E.out,B.out] at e2;omega
     obtain⟨g',c',e'⟩:=HO5.some_of (by rw[p];omega);exact⟨g',c',by rw[e',p]⟩
    go_wp2;go_roundw
    case rel=>exact⟨0+1,zk,by go_num,HV5.out,HO5.out,HB5.out,HC5.out⟩
    case measure=>simp[intOf];omega
   ·obtain⟨j,rfl⟩: ∃j,k=j+1:=⟨k-1,zk⟩;obtain⟨c0,am⟩:=ab.out j rfl;have aj:(0:Int)<(j:Int)+1:=zk;have ak:(j:Int)<(n:Int):=zk;generalize xs.getD j 0=z at*;go_wp2;go_quiet (fail);go_wp2_with fail;have P:=HF.out _ ((qj.refl a).drewN nq);generalize a.drewN nq=U at*;have K:Hid (zu U (w.heap.size+1) 5 (zg g (12+2*(j+1)) cp) L):=P.out.1;have c:Hid _:=P.out.2.1;have I:Hid _:=P.out.2.2;have F:=zX U y 2;refine F.mono ?_
    rintro e V ⟨r,rfl,d,C⟩;have s3:=(zE c);have s4:=C.size;have M:Hid (zu V (w.heap.size+1) 5 (zg g (12+2*(j+1)) cp) L):=K.chg C (by intro g _;omega);have N:Hid (zC V U.heap.size V.heap.size .u8 r (zx y 2)):=d.view (by rw[E.out];omega) (fun g D=>(d.lt g D).2);have J:Hid _:=I.trans C;have l:Hid _:=(C.bk _ (zE c)).trans c;obtain⟨r0,r1,r2,rfl⟩:=zF d;go_wp2_with (at_builtin;refine qp rfl (.tmp 61) (.tmp 67) rfl (w.heap.size+1) _ L rfl M.out zk _ _ _ (zx y 2) rfl N.out (by rw[E.out];omega) (by rw[E.out,B.out];omega) ?_)
    intro v' w5 R m;have HO5:Hid (zu w5 (w.heap.size+1) 5 v' (zD 3 (n:Int) q++qm (xs.take ((j+1)+1)))):=by show zu _ _ _ _ _;rw[HT.out];exact R
    have HC5:Hid _:=J.step m;have s:=(zE l);have HB5:Hid _:=(m.bk _ s).trans l;have HV5:Hid (∃g cp,v'=zg g (12+2*((j+1)+1)) cp):=by
     have p:(zD 3 (n:Int) q++qm (xs.take ((j+1)+1))).length=12+2*((j+1)+1):=by have e:=congrArg List.length HT.out;have e2:(L++zx y 2).length=L.length+(zx y 2).length:=mL;rw[E.out,B.out] at e2;omega
     obtain⟨g',c',e'⟩:=HO5.some_of (by rw[p];omega);exact⟨g',c',by rw[e',p]⟩
    go_wp2;go_roundw
    case rel=>exact⟨(j+1)+1,zk,by go_num,HV5.out,HO5.out,HB5.out,HC5.out⟩
    case measure=>simp[intOf];omega
  ·obtain rfl:k=n:=zk;have ht:xs.take k=xs:=ny (by have:=Hn.out;omega);rw[ht] at Z t;have sz:=W.size;have F:=Yw wr (by rw[t];omega) (Z.view (hi:=wr.heap.size) (by rw[t];omega) (fun g D=>(Z.lt g D).2));have HC:Hid _:=W;have ai: ¬((k:Int)<(k:Int)):=zk;go_wp2_with fail;refine F.mono ?_;rintro e a ⟨v,rfl,G,h2⟩;have A:Hid (zu a w.heap.size 5 v (qk (zD 3 (k:Int) q++qm xs))):=G.base (fun g D=>by have:=(G.lt g D).1;omega)
   have u:Hid _:=HC.trans h2;go_wp2;go_ret;exact⟨_,rfl,A,u⟩
def jA (xs:List Int) (esc:Bool):List Int:=if esc=true then mg++xs.drop 4 else xs
def Zp (xs:List Int) (esc:Bool):Bool:=if esc=true then decide (xs.take 4= [0,0,0,0]) else !decide (xs.take 4=mg)
theorem JK {P:Program}{fn:Func}{p1 p3:Tmp}{t1:TypeId}{tmps:Array Value}{a1:Addr}{v1 v3:Value}(h:fn.results= #[.cell p1 t1,.tmp p3])(h1:tmps.getD p1 undef= .pointer (some a1))(h3:tmps.getD p3 undef=v3)
  (c:(loadVar t1 a1).run P w= .ok v1 w):(results fn tmps).run P w= .ok (.tuple #[v1,v3]) w:=by
 have a:tmps[p1]?.getD undef= .pointer (some a1):=by simpa using h1
 have b:tmps[p3]?.getD undef=v3:=by simpa using h3
 simp only[results,h];simp[asAddr,a,b,c]
theorem XG (w:World)(xs:List Int)(F:Bool){tL tM tK:TypeId}{vL vM vK:Value}(X:xs.length=64)(hB:Byt xs)(hG:Za w tL tM tK vL vM vK):
  Calls Tryz.prog 173 #[.agg (xs.map (Value.int .u8)).toArray,.bool F] w fun e w'=>e= .returned (.tuple #[.agg ((jA xs F).map (Value.int .u8)).toArray,.bool (Zp xs F)])∧zr 0 0 w w':=by
 obtain⟨cs,z⟩: ∃cs,cs=xs.map (Value.int .u8):=⟨_,rfl⟩;have L1:cs.length=64:=by rw[z];simpa using X
 have L2: ∀v∈cs,v.oneCell'=true:=by rw[z];exact nf _ _
 have O:Hid _:=L1;have ai:Hid _:=L2;have R:Hid _:=z;have Hx:Hid _:=X;have HB:Hid (Byt xs):=hB;have o:(Tryz.prog.info? 78).map (·.size)=some cs.length:=by rw[L1];kernel_rfl
 have ap:=Tryz.underlying78;rw[←z];obtain⟨z1,z2,z3⟩:=zU w (zi cs.toArray 78) (zi Z64.toArray 78);have hA:zr 0 0 w ((w.alloc (zi cs.toArray 78)).alloc (zi Z64.toArray 78)):=(zr.al w).alloc _;obtain⟨h0,h1,h2,h3,h4,h5,h6,e7,ag⟩: ∃h0 h1 h2 h3 h4 h5 h6:Int,hd7 xs= #[zb h0,zb h1,zb h2,zb h3,za h4,za h5,za h6]∧xs.take 4= [h0,h1,h2,h3]:=by
  refine⟨_,_,_,_,_,_,_,rfl,?_⟩
  match xs,X with
  |a::b::c::d::r,_=>simp
 have E:Hid _:=ag;have ao:Hid _:=e7;have N:Hid _:=hG;clear L1 L2 z X hB hG e7 ag;go_enter Tryz.func173,Tryz.ntmps173;go_upto_region 1 with fail;simp only[qd];generalize (w.alloc (zi cs.toArray 78)).alloc (zi Z64.toArray 78)=wa at*;have ad:Hid _:=z2;have ae:Hid _:=z3;have HA:Hid _:=hA;have HR:Hid _:=zy z2;have hN:=QL wa xs Hx HB;rw[←R.out,ao.out] at hN;have af:=fun w'=>Xd w' h0 h1 h2 h3 h4 h5 h6;clear z2 z3 hA
 go_upto_region 2 with(first
  |(refine nN rfl 78 (.tmp 2) rfl w.heap.size 0 rfl cs _ HR ap rfl o ?_)
  |(refine hN.mono ?_;rintro e w1 ⟨rfl,T⟩)
  |(refine(af _).mono ?_;rintro e k ⟨rfl,U⟩))
 have s1:=T.size;have s2:=U.size;have C2:=T.trans U;have C3:zr 0 0 k (k.alloc (zi #[zb h0,zb h1,zb h2,zb h3] 144)):=zr.al k;have B:=C2.trans C3;have D:Hid ((k.alloc (zi #[zb h0,zb h1,zb h2,zb h3] 144)).heap[k.heap.size]?=some (zi (List.toArray [zb h0,zb h1,zb h2,zb h3]) 144)):=zt _ _;have HD:Hid _:=(B.bk w.heap.size).trans ad;have HQ:Hid _:=(B.bk (w.heap.size+1)).trans ae;have C:Hid _:=HA.trans B;have t:=N.chg C (Or.inl (mP 0))
 have l:Hid (_∧_∧_∧_):=⟨t.m0,t.m1,t.m2,t.m3⟩;have aq:=zV N.m0;have ak:Hid _:=O.out;have am:Hid _:=ai.out;clear C2 C3 B t T U HR hN af ad ae HA N;generalize (k.alloc (zi #[zb h0,zb h1,zb h2,zb h3] 144))=n at*
 cases F
 ·go_upto_region 3 with fail;have HS:Hid ((fun w':World=>(w'.heap[w.heap.size]?=some (zi cs.toArray 78)∧w'.heap[k.heap.size]?=some (zi (List.toArray [zb h0,zb h1,zb h2,zb h3]) 144))∧(w'.cell? (zd 0)=some (zb 106)∧w'.cell? ⟨0,1,none⟩=some (zb 108)∧w'.cell? ⟨0,2,none⟩=some (zb 111)∧w'.cell? ⟨0,3,none⟩=some (zb 103))) n.drew):=⟨⟨HD,D⟩,l⟩;refine hRg (fun w':World=>(w'.heap[w.heap.size]?=some (zi cs.toArray 78)∧w'.heap[k.heap.size]?=some (zi (List.toArray [zb h0,zb h1,zb h2,zb h3]) 144))∧(w'.cell? (zd 0)=some (zb 106)∧w'.cell? ⟨0,1,none⟩=some (zb 108)∧w'.cell? ⟨0,2,none⟩=some (zb 111)∧w'.cell? ⟨0,3,none⟩=some (zb 103))) ?_
  refine zI 0 (.agg cs.toArray) rfl zl zl zl (fun _ _ _ h=>h) (nl zl 78 (.tmp 2) rfl w.heap.size 0 rfl cs _ (fun w' g=>zy g.1.1) Tryz.underlying78 rfl o) HS ?_;go_simp;refine zI 1 (.agg (List.toArray [zb h0,zb h1,zb h2,zb h3])) rfl zl zl zl (fun _ _ _ h=>h) (nl zl 144 (.tmp 6) rfl k.heap.size 0 rfl [zb h0,zb h1,zb h2,zb h3] _ (fun w' g=>zy g.1.2) Tryz.underlying144 rfl zl) HS ?_;go_simp;refine hTk 2 (.agg #[zb 106,zb 108,zb 111,zb 103]) rfl (fun w' g=>by obtain⟨_,m0,m1,m2,m3⟩:=g;go_simp) HS.out ?_
  go_simp;have i:=fun w'=>jG w' 144 4 Tryz.underlying144 (xs:= [h0,h1,h2,h3]) (ys:=mg) (by rw[←E.out];exact HB.take 4) EY rfl rfl;obtain⟨q,m⟩: ∃q,q=decide (xs.take 4=mg):=⟨_,rfl⟩;have u:decide ([h0,h1,h2,h3]=mg)=q:=by rw[m,E.out]
  simp only[u] at i;simp only[mg,nR,pU] at i;have Q:Hid _:=m;clear u m;refine hTk 3 (.bool (!q)) rfl (fun w' g=>by have h9:=i w';simp only[execOp,Act.eval];go_simp) HS.out ?_;go_simp;clear i;refine hOn 4 rfl ?_;refine wp_store_row 78 (.tmp 4) (.tmp 14) rfl rfl (w.heap.size+1) rfl cs Z64 78 rfl HQ (by rw[zN];exact ak) o am ?_;intro I y f;have s:Hid ((fun w':World=>(w'.heap[w.heap.size]?=some (zi cs.toArray 78)∧w'.heap[k.heap.size]?=some (zi (List.toArray [zb h0,zb h1,zb h2,zb h3]) 144))∧(w'.cell? (zd 0)=some (zb 106)∧w'.cell? ⟨0,1,none⟩=some (zb 108)∧w'.cell? ⟨0,2,none⟩=some (zb 111)∧w'.cell? ⟨0,3,none⟩=some (zb 103))) I):=⟨⟨(f.bk w.heap.size (zE HS.1.1)).trans HS.1.1,(f.bk k.heap.size (zE HS.1.2)).trans HS.1.2⟩,f.cell HS.2.1,f.cell HS.2.2.1,f.cell HS.2.2.2.1,f.cell HS.2.2.2.2⟩
  have P:Hid _:=y;have M:Hid _:=C.step ((zr.drew (zr.refl (w.heap.size+1) (w.heap.size+1+1) n)).trans f);refine⟨s,?_⟩;clear y f;go_simp;refine hOn 5 rfl ?_;refine jb (v:= .bool (!q)) (w':=I) zq ⟨s.out,?_⟩;go_simp;refine hDn ?_;go_wp2;have W:(loadVar 78 (zd (w.heap.size+1))).run Tryz.prog I= .ok (.agg cs.toArray) I:=nd _ _ _ _ cs _ (zy P) Tryz.underlying78 rfl o;refine mT (v:= .tuple #[.agg cs.toArray,.bool (!q)]) (JK Tryz.results173 rfl rfl W) rfl ⟨?_,M⟩
  rw[R.out,Q.out];rfl
 ·obtain⟨c0,c1,c2,c3,cr,S⟩: ∃c0 c1 c2 c3 cr,cs=c0::c1::c2::c3::cr:=by
   have:=O.out
   match cs,this with
   |a::b::c::d::r,_=>exact⟨a,b,c,d,r,rfl⟩
  have L:Hid _:=S;have G:=HD.out;rw[S] at G;obtain⟨k0,k1,k2,k3,f0,f1,f2,f3⟩:n.cell? (zd w.heap.size)=some c0∧n.cell? ⟨w.heap.size,1,none⟩=some c1∧n.cell? ⟨w.heap.size,2,none⟩=some c2∧n.cell? ⟨w.heap.size,3,none⟩=some c3∧n.frozen? (zd w.heap.size)=false∧n.frozen? ⟨w.heap.size,1,none⟩=false∧n.frozen? ⟨w.heap.size,2,none⟩=false∧n.frozen? ⟨w.heap.size,3,none⟩=false:=by
   simp[World.cell?,World.frozen?,G]
  obtain⟨m0,m1,m2,m3⟩:=l.out;have ac:Hid _:=G;have i0: ∀w':World,(Instr.index 144 (.agg #[zb 106,zb 108,zb 111,zb 103]) (za 0)).run Tryz.prog w'= .ok (zb 106) w':=fun w'=>zl;have i1: ∀w':World,(Instr.index 144 (.agg #[zb 106,zb 108,zb 111,zb 103]) (za 1)).run Tryz.prog w'= .ok (zb 108) w':=fun w'=>zl;have i2: ∀w':World,(Instr.index 144 (.agg #[zb 106,zb 108,zb 111,zb 103]) (za 2)).run Tryz.prog w'= .ok (zb 111) w':=fun w'=>zl
  have i3: ∀w':World,(Instr.index 144 (.agg #[zb 106,zb 108,zb 111,zb 103]) (za 3)).run Tryz.prog w'= .ok (zb 103) w':=fun w'=>zl;clear S G;go_wp2;refine wp_loop_rounds 5 ?_;rw[oW];go_wp2;rw[oW];go_wp2;rw[oW];go_wp2;rw[oW];go_wp2;rw[oW];go_wp2;have J:zr w.heap.size (w.heap.size+1) n ((((n.setCell (zd w.heap.size) (zb 106)).setCell ⟨w.heap.size,1,none⟩ (zb 108)).setCell ⟨w.heap.size,2,none⟩ (zb 111)).setCell ⟨w.heap.size,3,none⟩ (zb 103)):=(((zr.setCell (p:=(zd w.heap.size)) (zr.refl _ _ _) (Or.inl ⟨mP _,m5 _⟩) _).setCell (p:=⟨w.heap.size,1,none⟩) (Or.inl ⟨mP _,m5 _⟩) _).setCell (p:=⟨w.heap.size,2,none⟩) (Or.inl ⟨mP _,m5 _⟩) _).setCell (p:=⟨w.heap.size,3,none⟩) (Or.inl ⟨mP _,m5 _⟩) _
  have D4:((((n.setCell (zd w.heap.size) (zb 106)).setCell ⟨w.heap.size,1,none⟩ (zb 108)).setCell ⟨w.heap.size,2,none⟩ (zb 111)).setCell ⟨w.heap.size,3,none⟩ (zb 103)).heap[w.heap.size]?=some (zi (List.toArray (zb 106::zb 108::zb 111::zb 103::cr)) 78):=by
   have e0:=oP n w.heap.size 0 _ _ (zb 106) ac;have e1:=oP _ w.heap.size 1 _ _ (zb 108) e0;have e2:=oP _ w.heap.size 2 _ _ (zb 111) e1;have e3:=oP _ w.heap.size 3 _ _ (zb 103) e2;simpa using e3
  generalize ((((n.setCell (zd w.heap.size) (zb 106)).setCell ⟨w.heap.size,1,none⟩ (zb 108)).setCell ⟨w.heap.size,2,none⟩ (zb 111)).setCell ⟨w.heap.size,3,none⟩ (zb 103))=w4 at*;obtain⟨j,H⟩: ∃j,j=Value.int .u8 106::zb 108::zb 111::zb 103::cr:=⟨_,rfl⟩;have V:j=(jA xs true).map (Value.int .u8):=by
   have h1:=R.out;have h2:=Hx.out;rw[L.out] at h1;rw[H]
   match xs,h2,h1 with
   |a::b::c::d::r,_,h1=>
    simp only[nR,pF] at h1;obtain⟨_,_,_,_,rfl⟩:=h1;simp[jA,mg]
  have an:Hid _:=V;have K:Hid (j.length=64):=by
   have h1:=O.out;rw[L.out] at h1;show j.length=64;rw[H];simpa using h1
  have ab:Hid (∀v∈j,v.oneCell'=true):=by
   show∀v∈j,v.oneCell'=true;rw[V];exact nf _ _
  have A:(Tryz.prog.info? 78).map (·.size)=some j.length:=by rw[K.out];kernel_rfl
  rw[←H] at D4;have ah:Hid _:=D4;have Z:Hid _:=(J.bk k.heap.size (zE D)).trans D;have aj:Hid _:=(J.bk (w.heap.size+1) (zE HQ)).trans HQ;have Y:Hid _:=C.step J;have aa:Hid (_∧_∧_∧_):=⟨J.cell l.1,J.cell l.2.1,J.cell l.2.2.1,J.cell l.2.2.2⟩;clear J D4 H V k0 k1 k2 k3 f0 f1 f2 f3 m0 m1 m2 m3 i0 i1 i2 i3 HD D HQ C l ac;have HS:Hid ((fun w':World=>(w'.heap[w.heap.size]?=some (zi j.toArray 78)∧w'.heap[k.heap.size]?=some (zi (List.toArray [zb h0,zb h1,zb h2,zb h3]) 144))∧(w'.cell? (zd 0)=some (zb 106)∧w'.cell? ⟨0,1,none⟩=some (zb 108)∧w'.cell? ⟨0,2,none⟩=some (zb 111)∧w'.cell? ⟨0,3,none⟩=some (zb 103))) w4.drew):=⟨⟨ah,Z⟩,aa⟩
  refine hRg (fun w':World=>(w'.heap[w.heap.size]?=some (zi j.toArray 78)∧w'.heap[k.heap.size]?=some (zi (List.toArray [zb h0,zb h1,zb h2,zb h3]) 144))∧(w'.cell? (zd 0)=some (zb 106)∧w'.cell? ⟨0,1,none⟩=some (zb 108)∧w'.cell? ⟨0,2,none⟩=some (zb 111)∧w'.cell? ⟨0,3,none⟩=some (zb 103))) ?_;refine zI 0 (.agg j.toArray) rfl zl zl zl (fun _ _ _ h=>h) (nl zl 78 (.tmp 2) rfl w.heap.size 0 rfl j _ (fun w' g=>zy g.1.1) Tryz.underlying78 rfl A) HS ?_
  go_simp;refine zI 1 (.agg (List.toArray [zb h0,zb h1,zb h2,zb h3])) rfl zl zl zl (fun _ _ _ h=>h) (nl zl 144 (.tmp 6) rfl k.heap.size 0 rfl [zb h0,zb h1,zb h2,zb h3] _ (fun w' g=>zy g.1.2) Tryz.underlying144 rfl zl) HS ?_;go_simp;refine hTk 2 (.agg #[zb 0,zb 0,zb 0,zb 0]) rfl (fun w' g=>by obtain⟨_,m0,m1,m2,m3⟩:=g;go_simp) HS.out ?_;go_simp;have i:=fun w'=>jG w' 144 4 Tryz.underlying144 (xs:= [h0,h1,h2,h3]) (ys:= [0,0,0,0]) (by rw[←E.out];exact HB.take 4) (by intro x X;simp at X;omega) rfl rfl
  obtain⟨q,m⟩: ∃q,q=decide (xs.take 4= [0,0,0,0]):=⟨_,rfl⟩;have u:decide ([h0,h1,h2,h3]= [0,0,0,0])=q:=by rw[m,E.out]
  simp only[u] at i;simp only[nR,pU] at i;have Q:Hid _:=m;clear u m;refine hTk 3 (.bool (q)) rfl (fun w' g=>by have h9:=i w';simp only[execOp,Act.eval];go_simp) HS.out ?_;go_simp;clear i;refine hOn 4 rfl ?_;refine wp_store_row 78 (.tmp 4) (.tmp 27) rfl rfl (w.heap.size+1) rfl j Z64 78 rfl aj (by rw[zN];exact K) A ab ?_;intro I y f;have s:Hid ((fun w':World=>(w'.heap[w.heap.size]?=some (zi j.toArray 78)∧w'.heap[k.heap.size]?=some (zi (List.toArray [zb h0,zb h1,zb h2,zb h3]) 144))∧(w'.cell? (zd 0)=some (zb 106)∧w'.cell? ⟨0,1,none⟩=some (zb 108)∧w'.cell? ⟨0,2,none⟩=some (zb 111)∧w'.cell? ⟨0,3,none⟩=some (zb 103))) I):=⟨⟨(f.bk w.heap.size (zE HS.1.1)).trans HS.1.1,(f.bk k.heap.size (zE HS.1.2)).trans HS.1.2⟩,f.cell HS.2.1,f.cell HS.2.2.1,f.cell HS.2.2.2.1,f.cell HS.2.2.2.2⟩
  have P:Hid _:=y;have M:Hid _:=Y.step ((zr.drew (zr.refl (w.heap.size+1) (w.heap.size+1+1) w4)).trans f);refine⟨s,?_⟩;clear y f;go_simp;refine hOn 5 rfl ?_;refine jb (v:= .bool (q)) (w':=I) zq ⟨s.out,?_⟩;go_simp;refine hDn ?_;go_wp2;have W:(loadVar 78 (zd (w.heap.size+1))).run Tryz.prog I= .ok (.agg j.toArray) I:=nd _ _ _ _ j _ (zy P) Tryz.underlying78 rfl A;refine mT (v:= .tuple #[.agg j.toArray,.bool q]) (JK Tryz.results173 rfl rfl W) rfl ⟨?_,M⟩
  rw[an.out,Q.out];rfl
theorem bz (w:World)(b cap:Nat)(d e f g:Value)(r:TypeId)(n:w.cell? (zd b)=some d)(o:w.cell? ⟨b,1,none⟩=some e)(p:w.cell? ⟨b,2,none⟩=some f)(q:w.cell? ⟨b,3,none⟩=some g)
  (h:w.frozen? (zd b)=false) (i:w.frozen? ⟨b,1,none⟩=false) (k:w.frozen? ⟨b,2,none⟩=false) (l:w.frozen? ⟨b,3,none⟩=false):
  (Builtin.clear_ #[22] r #[zg b 4 cap]).run Tryz.prog w= .ok (.tuple #[]) ((((w.setCell (zd b) (zb 0)).setCell ⟨b,1,none⟩ (zb 0)).setCell ⟨b,2,none⟩ (zb 0)).setCell ⟨b,3,none⟩ (zb 0)):=by
 have m:(Builtin.zeroCells #[Value.int .u8 0] 4).toList= [zb 0,zb 0,zb 0,zb 0]:=by first|kernel_rfl|decide|simp[Builtin.zeroCells]
 have a:=run_storeCells_cells (P:=Tryz.prog) b 0 [zb 0,zb 0,zb 0,zb 0] 0 w
  (fun j c=>by
   have:j=0∨j=1∨j=2∨j=3:=by simp at c;omega
   rcases this with rfl|rfl|rfl|rfl
   ·simp[n]
   ·simp[o]
   ·simp[p]
   ·simp[q])
  (fun j c=>by
   have:j=0∨j=1∨j=2∨j=3:=by simp at c;omega
   rcases this with rfl|rfl|rfl|rfl
   ·simpa using h
   ·simpa using i
   ·simpa using k
   ·simpa using l)
  (by simp[Value.oneCell'])
 simp only[oF] at a;simp[Builtin.clear_,go_sem];rw[m,a];rfl
def Zi (xs:List Int):List Int:=if xs.take 4=mg then [0,0,0,0]++xs.drop 4 else xs
theorem jX (h:xs.length=64):(Zi xs).length=64:=by
 unfold Zi;split
 ·simp[h]
 ·exact h
theorem Tryz.infoH:(Tryz.prog.info? 68).map (fun i=>(i.zero,i.size,i.bytes))=some (some (.agg #[za 0,zc]),2,32):=zl
theorem fq (a b:Value)(n i:Nat)(h:i<n):(madeCells #[a,b] (n*2)).toList[i*2]?=some a∧(madeCells #[a,b] (n*2)).toList[i*2+1]?=some b:=by
 have h1:i*2<n*2:=zk;have h2:i*2+1<n*2:=zk;have c:i*2 % 2=0:=zk;have d:(i*2+1) % 2=1:=zk;constructor
 ·simp[madeCells,h1,c]
 ·simp[madeCells,h2,d]
structure Tx where
 seq:Int
 homes:List Wr
 rV:List Int
def jy (w:World) (lo hi:Nat) (v:Value) (t:Tx):Prop:= ∃hv rv,v= .agg #[za t.seq,hv,rv]∧qW w lo hi hv t.homes∧zC w lo hi .i64 rv t.rV
theorem jy.chg {l r:Nat}{t:Tx}(h:jy w lo hi v t)(c:zr l r w w')(e:hi≤l∨r≤lo∨r≤l):jy w' lo hi v t:=by
 obtain⟨b,d,a,h1,h2⟩:=h;exact⟨b,d,a,h1.chg c e,h2.chg c e⟩
def Qa (t:Tx):Nat:=cnt t.homes+t.rV.length
theorem tri {s:Nat}{b c:Value}{t:TypeId}(h:w.heap[s]?=some (zi #[a,b,c] t)):
  (w.cell? (zd s)=some a∧w.cell? ⟨s,1,none⟩=some b∧w.cell? ⟨s,2,none⟩=some c)∧w.frozen? (zd s)=false∧w.frozen? ⟨s,1,none⟩=false∧w.frozen? ⟨s,2,none⟩=false:=by
 simp[World.cell?,World.frozen?,h]
theorem zC.slice {k:IntKind}(h:zC w lo hi k v xs): ∃a cap,v=zj a xs.length cap:=by
 obtain⟨a,cap,rfl,_⟩:=h;exact⟨a,cap,rfl⟩
theorem qW.slice {ps:List Wr}(h:qW w lo hi v ps): ∃a cap,v=zj a ps.length cap:=by
 obtain⟨a,cap,rfl,_⟩:=h;exact⟨a,cap,rfl⟩
abbrev nt:= @Value.slice.injEq
theorem UQ (ps:List Wr)(k:Nat)(h:k<ps.length):(ps.take (k+1)).map (·.1)=(ps.take k).map (·.1)++ [(ps.getD k (0,[])).1]:=by
 rw[oy h,m6];simp[h]
theorem Yy (w:World)(ps:List Wr)(lo hi b l cap:Nat)(Y:ps.length≤1048576)
  (h1: ∀i,i<ps.length→ ∃M,w.cell? ⟨b,l+i*2,none⟩=some (za (ps.getD i (0,[])).1)∧w.cell? ⟨b,l+i*2+1,none⟩=some M∧zC w lo hi .u8 M (ps.getD i (0,[])).2):
  Calls Tryz.prog 91 #[zj (some ⟨b,l,none⟩) ps.length cap] w fun e w'=> ∃v,e= .returned v∧zM w' w.heap.size 2 v (ps.map (·.1))∧zr 0 0 w w':=by
 obtain⟨V,E,F,H,I⟩:=info_parts Tryz.infoI;have P:zr 0 0 w (w.alloc (zi #[] 2)):=zr.al w;have x:Hid (zM (w.alloc (zi #[] 2)) w.heap.size 2 (zg w.heap.size 0 0) []):=by
  show zM _ _ _ _ _;have:=World.ownsRow_lit (base:=w.heap.size) (e:=2) (size:=1) w #[] 0 nlR (by unfold maxLen;omega) rfl;simpa [zM] using this
 go_enter Tryz.func91,Tryz.ntmps91;go_wp2;go_loopw [3,4] (fun o i wr=> ∃k:Nat,k≤ps.length∧i=za k∧(∃g cp,o=zg g k cp)∧zM wr w.heap.size 2 o ((ps.take k).map (·.1))∧zr 0 0 w wr) (fun _ i _=>ps.length-(intOf i).toNat)
 case atStart=>exact⟨0,mX _,rfl,⟨_,_,rfl⟩,x,P⟩
 case round=>
  obtain⟨k,X,rfl,⟨s,J,rfl⟩,r,d⟩:=hrel;have t:Hid (zM wr w.heap.size 2 (zg s k J) ((ps.take k).map (·.1))):=r;have h:Hid _:=d;by_cases f:k<ps.length
  ·obtain⟨W,L,_,_⟩:=h1 k f;have L:=d.cell L;have hi:(k:Int)<(ps.length:Int):=zk;have Q:Hid _:=UQ ps k f;have m:Hid (((ps.take k).map (·.1)).length=k):=by show _=_;rw[mO,mW];omega
   generalize (ps.getD k (0,[])).1=y at*;generalize (ps.take k).map (·.1)=N at*;have U:=h.size;have T:=r.lt s rfl;have p:Hid ((wr.alloc (zi #[za y] 2)).ownsRow w.heap.size 2 1 (zg s k J) k (N.map (Value.int .i64))):=by
    have:=t.chg (zr.alloc (zr.refl 0 0 wr) (zi #[za y] 2)) (by intro g _;omega);unfold zM at this;rw[m.out] at this;exact this
   have z:Hid (∀g,(zg s k J).ownBlock=some g→w.heap.size≤g):=fun g A=>(t.lt g A).1;have n:Hid (∀j u,[Value.int .i64 y][j]?=some u→(wr.alloc (zi #[za y] 2)).cell? (((zd wr.heap.size):Addr).add j)=some u):=by
    intro j u B;have C:j=0:=by have:=(nD.1 B).1;simp at this;exact this
    subst C;simp at B;subst B;simp[Addr.add]
   have bs:Hid (w.heap.size≤(wr.alloc (zi #[za y] 2)).heap.size):=by show _≤_;simp;omega
   clear r d h1;go_wp2_with (at_builtin;refine wpList_append_own _ rfl (.tmp 12) (.tmp 18) 33 rfl w.heap.size 2 V (za 0) 1 8 Tryz.underlying33 E F H I rfl zp _ k (N.map (Value.int .i64)) rfl p.out (zd wr.heap.size) 1 1 [za y] rfl rfl n.out (by simp[Value.oneCell']) (by unfold maxLen;omega) zk bs.out ?_);intro O K c a D;have HV5:Hid (∃g cap,O=zg g (k+1) cap):=by
    show∃g cap,_;rcases c.2 with⟨e,h0⟩|⟨S,q,R,e,_⟩
    ·omega
    ·exact⟨S,q,e⟩
   have HO5:Hid (zM K w.heap.size 2 O ((ps.take (k+1)).map (·.1))):=by
    show zM _ _ _ _ _;unfold zM;rw[Q.out,mL,m.out,m6];exact c
   have G:zr w.heap.size (wr.heap.size+1) (wr.alloc (zi #[za y] 2)) K:=zr.ofGrown a (fun g A f=>⟨z.out g A,by simpa using f⟩);have HC5:Hid (zr 0 0 w K):=(h.alloc _).step G (Or.inr (Or.inl nlR));clear c a G n p bs D;go_wp2;go_roundw
   case rel=>exact⟨k+1,zk,by go_num,HV5.out,HO5.out,HC5.out⟩
   case measure=>simp[intOf];omega
  ·obtain rfl:k=ps.length:=zk;clear r d h1;go_wp2;go_ret;exact⟨_,rfl,by have:=t.out;rwa [nV] at this,h⟩
theorem Yx (w:World)(c:Option Addr)(cap:Nat):
  Calls Tryz.prog 91 #[zj c 0 cap] w fun e w'=> ∃v,e= .returned v∧zM w' w.heap.size 2 v []∧zr 0 0 w w':=by
 have b:zr 0 0 w (w.alloc (zi #[] 2)):=zr.al w;have a:Hid (zM (w.alloc (zi #[] 2)) w.heap.size 2 (zg w.heap.size 0 0) []):=by
  show zM _ _ _ _ _;have:=World.ownsRow_lit (base:=w.heap.size) (e:=2) (size:=1) w #[] 0 nlR (by unfold maxLen;omega) rfl;simpa [zM] using this
 go_enter Tryz.func91,Tryz.ntmps91;go_wp2;refine pD 1 ?_;rw[rounds_succ];go_wp2;go_ret;exact⟨_,rfl,a,b⟩
theorem QO (w:World){ps:List Wr}(d:ps.length≤1048576)(h1:qW w lo hi a ps):
  Calls Tryz.prog 91 #[a] w fun e w'=> ∃v,e= .returned v∧zM w' w.heap.size 2 v (ps.map (·.1))∧zr 0 0 w w':=by
 obtain⟨c,cap,rfl,_,_,h1⟩:=h1;rcases h1 with rfl|⟨x,b,rfl,_,_,h1⟩
 ·exact Yx w c cap
 ·exact Yy w ps lo hi x b cap d h1
def Ul (t:Tx):Prop:=(1≤t.seq∧t.seq≤4294967295)∧1≤t.homes.length+t.rV.length∧t.homes.length+t.rV.length≤128
def J8 (t:Tx) (h:Wr):Prop:=h.2.length=64∧h.1∉t.rV
def ZC (t:Tx) (n:Nat):Prop:= ∀i,i<n→J8 t (t.homes.getD i (0,[]))
def qy (t:Tx):Prop:=Ul t∧jv (t.homes.map (·.1))=true∧jv t.rV=true∧ZC t t.homes.length
def ja (t:Tx):Bool:=decide (((1≤t.seq∧t.seq≤4294967295)∧1≤t.homes.length+t.rV.length∧t.homes.length+t.rV.length≤128)∧jv (t.homes.map (·.1))=true∧jv t.rV=true∧ ∀i,i<t.homes.length→(t.homes.getD i (0,[])).2.length=64∧(t.homes.getD i (0,[])).1∉t.rV)
theorem qu {t:Tx}(h:qy t):ja t=true:=decide_eq_true h
theorem qg {t:Tx}(h: ¬qy t):ja t=false:=decide_eq_false h
theorem ZC.succ {t:Tx}(h:ZC t n)(a:J8 t (t.homes.getD n (0,[]))):ZC t (n+1):=by
 intro i hi;by_cases e:i=n
 ·subst e;exact a
 ·exact h i zk
theorem ZJ (w:World){t:Tx}(hl:Qa t≤1048576)(h1:jy w lo hi a t):
  Calls Tryz.prog 45 #[a] w fun e w'=>e= .returned (.bool (ja t))∧zr 0 0 w w':=by
 have Y:t.homes.length≤1048576:=by have:=gQ t.homes;unfold Qa at hl;omega
 have ad:t.rV.length≤1048576:=by unfold Qa at hl;omega
 obtain⟨hv,rv,rfl,p1,v1⟩:=h1;obtain⟨l,c,rfl⟩:=p1.slice;obtain⟨j,cap,rfl⟩:=v1.slice;have hA:zr 0 0 w (w.alloc (zi #[za t.seq,zj l t.homes.length c,zj j t.rV.length cap] 35)):=zr.al w;have T:=zt w (zi #[za t.seq,zj l t.homes.length c,zj j t.rV.length cap] 35);have s0:(w.alloc (zi #[za t.seq,zj l t.homes.length c,zj j t.rV.length cap] 35)).heap.size=w.heap.size+1:=zn;obtain⟨⟨P,Q,R⟩,_⟩:=tri T;have HP:Hid (qW w lo hi (zj l t.homes.length c) t.homes):=p1
 have HR:Hid (zC w lo hi .i64 (zj j t.rV.length cap) t.rV):=v1;have E:Hid (zr 0 0 w (w.alloc (zi #[za t.seq,zj l t.homes.length c,zj j t.rV.length cap] 35))):=hA;have U:Hid ((w.alloc (zi #[za t.seq,zj l t.homes.length c,zj j t.rV.length cap] 35)).heap[w.heap.size]?=some (zi #[za t.seq,zj l t.homes.length c,zj j t.rV.length cap] 35)):=T;obtain⟨b1,A⟩: ∃b,Hid (b=jv (t.homes.map (·.1))):=⟨_,rfl⟩;obtain⟨b2,B⟩: ∃b,Hid (b=jv t.rV):=⟨_,rfl⟩
 clear p1 v1 hA T;go_enter Tryz.func45,Tryz.ntmps45;go_wp2_with fail;generalize (w.alloc (zi #[za t.seq,zj l t.homes.length c,zj j t.rV.length cap] 35))=w0 at*;refine(jC _ t.seq).mono ?_;rintro e w1 ⟨rfl,rfl⟩;by_cases hs:Ul t
 case neg=>
  have Hv:Hid (ja t=false):=qg (fun h=>hs h.1);by_cases O:1≤t.seq∧t.seq≤4294967295
  ·have s:qA t.seq=true:=by unfold qA;simpa using O
   rw[s];have hn:(t.homes.length:Int)+t.rV.length<1∨128<(t.homes.length:Int)+t.rV.length:=by
    by_cases h:1≤t.homes.length+t.rV.length
    ·right;have: ¬t.homes.length+t.rV.length≤128:=fun h'=>hs ⟨O,h,h'⟩;omega
    ·left;omega
   clear hs s;rcases hn with hn|hn
   ·go_wp2;go_ret;exact⟨by rw[Hv.out];rfl,E⟩
   ·go_wp2;go_ret;exact⟨by rw[Hv.out];rfl,E⟩
  ·have s:qA t.seq=false:=by unfold qA;rw[n7];simpa using O
   rw[s];clear hs s;go_wp2;go_ret;exact⟨by rw[Hv.out];rfl,E⟩
 obtain⟨O,ae,af⟩:=id hs;have s:qA t.seq=true:=by unfold qA;simpa using O
 have L: ¬(t.homes.length:Int)+t.rV.length<1:=zk;have M: ¬128<(t.homes.length:Int)+t.rV.length:=zk;have HS:Hid (Ul t):=hs;rw[s];clear s hs;go_wp2_with fail;refine(QO _ Y (HP.chg E zk)).mono ?_;rintro e w2 ⟨bv,rfl,Z,h2⟩;have vb:=Z.view (hi:=w2.heap.size) (by rw[mO];omega) (fun g s=>(Z.lt g s).2);have F:Hid _:=E.trans h2;have G:Hid _:=h2.bt U;obtain⟨bo,aa,J⟩:=vb.slice;rw[mO] at J;subst J;clear Z h2 P Q R L M
 go_wp2_with fail;refine(J9 _ vb).mono ?_;rintro e w3 ⟨r,h3⟩;rw[←A.out] at r;subst r;have x:Hid _:=F.trans (h3.chg 0 0);have z:Hid (w3.heap[w.heap.size]?=some (zi #[za t.seq,zj l t.homes.length c,zj j t.rV.length cap] 35)):=by show _=_;rw[h3.heap];exact G.out
 obtain⟨⟨P,Q,R⟩,_⟩:=tri z;clear h3 vb F G;go_wp2_with fail;refine(J9 _ (HR.chg x zk)).mono ?_;rintro e w4 ⟨r,X⟩;rw[←B.out] at r;subst r;have y:Hid _:=x.trans (X.chg 0 0);have V:Hid (w4.heap[w.heap.size]?=some (zi #[za t.seq,zj l t.homes.length c,zj j t.rV.length cap] 35)):=by show _=_;rw[X.heap];exact z.out
 clear X P Q R x z
 cases b1
 case false=>
  have Hv:Hid (ja t=false):=qg (fun h=>by have:=h.2.1;rw[←A.out] at this;cases this);go_wp2;go_ret;exact⟨by rw[Hv.out];rfl,y⟩
 cases b2
 case false=>
  have Hv:Hid (ja t=false):=qg (fun h=>by have:=h.2.2.1;rw[←B.out] at this;cases this);go_wp2;go_ret;exact⟨by rw[Hv.out];rfl,y⟩
 have H1:Hid _:=A.symm;have H2:Hid _:=B.symm;go_wp2;go_loopw [8] (fun i wr=>qj w4 wr∧ ∃k:Nat,k≤t.homes.length∧i=za k∧ZC t k) (fun i _=>t.homes.length-(intOf i).toNat)
 case atStart=>exact⟨qj.refl _,0,mX _,rfl,fun i h=>absurd h (nW i)⟩
 case round=>
  obtain⟨u,k,hk,rfl,hO⟩:=hrel;have HO:Hid (ZC t k):=hO;have W:Hid (qj w4 wr):=u;have H:Hid _:=y.trans (u.chg 0 0);have HB:wr.heap[w.heap.size]?=some (zi #[za t.seq,zj l t.homes.length c,zj j t.rV.length cap] 35):=by rw[u.heap];exact V
  obtain⟨⟨P,Q,R⟩,_⟩:=tri HB;clear hO u HB;by_cases v:k<t.homes.length
  ·obtain⟨b,f,r,c1,I,c2,S⟩: ∃b f,l=some ⟨b,f,none⟩∧wr.cell? ⟨b,f+k*2,none⟩=some (za (t.homes.getD k (0,[])).1)∧ ∃I,wr.cell? ⟨b,f+k*2+1,none⟩=some I∧zC wr lo hi .u8 I (t.homes.getD k (0,[])).2:=by
    obtain⟨ai,ah,r,_,_,N⟩:=HP.chg H zk;simp only[nt] at r;obtain⟨rfl,_,rfl⟩:=r;rcases N with N|⟨b,f,rfl,_,_,N⟩
    ·rw[N] at v;simp at v
    ·obtain⟨I,c1,c2,S⟩:=N k v;exact⟨b,f,rfl,c1,I,c2,S⟩
   subst r;obtain⟨d0,ab,rfl⟩:=S.slice;have ac:(k:Int)<(t.homes.length:Int):=zk;have p:J8 t (t.homes.getD k (0,[]))→ZC t (k+1):=fun h=>HO.succ h;have d: ¬J8 t (t.homes.getD k (0,[]))→ja t=false:=fun h=>qg (fun hv=>h (hv.2.2.2 k v));have o: ∀m,zC (wr.drewN m) lo hi .i64 (zj j t.rV.length cap) t.rV:=fun m=>HR.chg (H.drewN m) zk;unfold J8 at p d;generalize (t.homes.getD k (0,[])).1=q at*;generalize (t.homes.getD k (0,[])).2.length=n at*
   clear S;by_cases hn:n=64
   ·subst hn;by_cases D:q∈t.rV
    ·have Hv:Hid _:=d (fun h=>h.2 D);have K:=mR D;have C:=fun m=>KI (wr.drewN m) q (o m);rw[K] at C;clear p d o K D;go_wp2;go_quiet (first|(go_at_call 93;exact Calls.quiet_of_same (C _)));clear C;go_wp2;go_ret;exact⟨by rw[Hv.out];rfl,H.drewN _⟩
    ·have Hn:Hid (ZC t (k+1)):=p ⟨rfl,D⟩;have K:=mY D;have C:=fun m=>KI (wr.drewN m) q (o m);rw[K] at C;clear p d o K D;go_wp2;go_quiet (first|(go_at_call 93;exact Calls.quiet_of_same (C _)));clear C;go_wp2;go_roundw
     case rel=>exact⟨W.out.drewN _,k+1,zk,by go_num,Hn.out⟩
     case measure=>simp[intOf];omega
   ·have Hv:Hid _:=d (fun h=>hn h.1);have ag:((n:Int) !=64)=true:=by simp;omega
    clear p d o hn;go_wp2;go_quiet (fail);go_wp2;go_ret;exact⟨by rw[Hv.out];rfl,H.drewN _⟩
  ·obtain rfl:k=t.homes.length:=zk;have Hv:Hid _:=qu ⟨HS,H1,H2,HO⟩;go_wp2;go_ret;exact⟨by rw[Hv.out];rfl,H⟩
abbrev rD:= @List.map_take
abbrev rO:= @Nat.div_eq_of_lt
abbrev sL:= @Nat.add_div_right
def Q4 (q:Int) (xs:List Int):List Int:=qk (zD 3 xs.length q++qm xs)
def z9 (h:Wr):Int×Bool:=(h.1,decide (h.2.take 4=mg))
def Jw (q:Int) (hs:List Wr):List Int:=qk (zD 2 hs.length q++zP (hs.map z9))
def zW (q:Int) (hs:List Wr):List (List Int):=Jw q hs::hs.map fun h=>Zi h.2
def jW {α:Type} (n:Nat) (xs:List α):List (List α):=(List.range ((xs.length+n-1)/n)).map fun i=>(xs.drop (n*i)).take n
theorem EZ (n:Nat)(xs:List α):(jW n xs).length=(xs.length+n-1)/n:=by simp[jW]
theorem Z9 (n:Nat)(a:0<n:=by omega):jW n ([]:List α)= []:=by
 have:([]:List α).length+n-1=n-1:=zn;unfold jW;rw[this,rO zk];rfl
theorem Z8 (n:Nat)(a:0<n:=by omega){xs:List α}(h:0<xs.length:=by omega):jW n xs=xs.take n::jW n (xs.drop n):=by
 unfold jW;have e:(xs.length+n-1)/n=((xs.drop n).length+n-1)/n+1:=by
  rw[m8];by_cases b:n≤xs.length
  ·rw[show xs.length+n-1=(xs.length-n+n-1)+n by omega,sL _ a]
  ·rw[show xs.length-n=0 by omega,rO (show 0+n-1<n by omega)];rw[show xs.length+n-1=(xs.length-1)+n by omega,sL _ a,rO zk]
 rw[e,List.range_succ_eq_map,nR,oR];congr 1;apply pz;intro i _;simp only[Function.comp,pK,Nat.mul_succ];congr 2;omega
theorem Jd {xs c:List α}(h:c∈jW n xs): ∀x∈c,x∈xs:=by
 unfold jW at h;obtain⟨i,_,rfl⟩:=m9.1 h;intro x a;exact rj (ot a)
def BL (q:Int) (hs:List Wr) (rs:List Int):List (List Int):=(jW 26 rs).map (Q4 q)++(jW 17 hs).flatMap (zW q)
theorem bj (q:Int):BL q [] []= []:=by unfold BL;rw[Z9 26,Z9 17];rfl
theorem bn (q:Int)(hs:List Wr)(h:0<rs.length):BL q hs rs=Q4 q (rs.take 26)::BL q hs (rs.drop 26):=by
 unfold BL;rw[Z8 26 zk h];rfl
theorem ES (q:Int){hs:List Wr}(h:0<hs.length):BL q hs []=zW q (hs.take 17)++BL q (hs.drop 17) []:=by
 unfold BL;rw[Z8 17 zk h,Z9 26];simp
structure OkT (q:Int)(hs:List Wr)(rs:List Int):Prop where
 q0:1≤q
 q1:q≤4294967295
 rev:z8 rs rs.length
 home:z8 (hs.map (·.1)) hs.length
 data: ∀h∈hs,h.2.length=64
 byt: ∀h∈hs,Byt h.2
theorem z8.drop (h:z8 xs xs.length)(n:Nat):z8 (xs.drop n) (xs.drop n).length:=by
 intro i hi;rw[m8] at hi;have e: ∀j,(xs.drop n).getD j 0=xs.getD (n+j) 0:=fun j=>zn;have a:=h (n+i) zk;rw[e];by_cases d:i=0
 ·subst d;have f:=h.pos (n+0) zk;exact jZ.2 ⟨by show(-1:Int)<_;omega,(jZ.1 a).2⟩
 ·obtain⟨j,rfl⟩: ∃j,i=j+1:=⟨i-1,zk⟩;have b:qH (xs.drop n) (j+1)=xs.getD (n+j) 0:=by unfold qH;rw[mN zk];exact e j
  have c:qH xs (n+(j+1))=xs.getD (n+j) 0:=by unfold qH;rw[mN zk];rfl
  rw[b,←c];exact a
theorem z8.take (h:z8 xs xs.length)(n:Nat):z8 (xs.take n) (xs.take n).length:=by
 intro i hi;rw[mW] at hi;have e: ∀j,j<n→(xs.take n).getD j 0=xs.getD j 0:=fun j d=>by simp[d]
 have a:=h i zk;rw[e i zk];by_cases f:i=0
 ·subst f;exact a
 ·obtain⟨j,rfl⟩: ∃j,i=j+1:=⟨i-1,zk⟩;have b:qH (xs.take n) (j+1)=xs.getD j 0:=by unfold qH;rw[mN zk];exact e j zk
  have c:qH xs (j+1)=xs.getD j 0:=by unfold qH;rw[mN zk];rfl
  rw[b,←c];exact a
theorem Kd {hs:List Wr}(h:z8 (hs.map (·.1)) hs.length):z8 (hs.map (·.1)) (hs.map (·.1)).length:=by rw[mO];exact h
theorem OkT.dropR {hs:List Wr}(h:OkT q hs rs)(n:Nat):OkT q hs (rs.drop n):=⟨h.q0,h.q1,h.rev.drop n,h.home,h.data,h.byt⟩
theorem OkT.dropH {hs:List Wr}(h:OkT q hs rs)(n:Nat):OkT q (hs.drop n) rs:=
 ⟨h.q0,h.q1,h.rev,by have:=(Kd h.home).drop n;rw[←List.map_drop,mO] at this;exact this,fun x a=>h.data x (rj a),fun x a=>h.byt x (rj a)⟩
theorem OkT.takeH {hs:List Wr}(h:OkT q hs rs)(n:Nat):OkT q (hs.take n) rs:=
 ⟨h.q0,h.q1,h.rev,by have:=(Kd h.home).take n;rw[←rD,mO] at this;exact this,fun x a=>h.data x (ot a),fun x a=>h.byt x (ot a)⟩
theorem OkT.of {t:Tx}(h:qy t)(c: ∀x∈t.homes,Byt x.2):OkT t.seq t.homes t.rV:=by
 obtain⟨⟨⟨h1,h2⟩,_⟩,h3,a,b⟩:=h;refine⟨h1,h2,jI.1 a,by have:=jI.1 h3;rwa [mO] at this,?_,c⟩;intro x d;obtain⟨i,hi,rfl⟩:=r7.1 d;have:=(b i hi).1;rwa [show t.homes.getD i (0,[])=t.homes[i] by simp[hi]] at this
theorem EN {hs:List Wr}(h:OkT q hs rs):z8 ((hs.map z9).map (·.1)) (hs.map z9).length:=by
 rw[oR,mO];exact h.home
theorem iW (h0:1≤q)(h1:q≤4294967295)(b:xs.length≤26)(a: ∀x∈xs,0≤x∧x<2048):(Q4 q xs).length=64:=by
 unfold Q4 qk;have e:(zD 3 xs.length q++qm xs).length=12+2*xs.length:=by rw[mL,Ji (pn2) (pn4 zk h1),Jn a]
 rw[mL,nC,e];omega
theorem bD {hs:List Wr}(h0:1≤q)(h1:q≤4294967295)(d:hs.length≤17)(b: ∀x∈hs,0≤x.1∧x.1<2048):(Jw q hs).length=64:=by
 unfold Jw qk;have e:(zD 2 hs.length q++zP (hs.map z9)).length=12+3*hs.length:=by
  rw[mL,Ji (pn2) (pn4 zk h1),Jr (fun x a=>by obtain⟨y,c,rfl⟩:=m9.1 a;exact b y c),mO]
 rw[mL,nC,e];omega
theorem OkT.homes_in {hs:List Wr}(h:OkT q hs rs): ∀x∈hs,0≤x.1∧x.1<2048:=fun x a=>
 (Kd h.home).bound nlR x.1 (m9.2 ⟨x,a,rfl⟩)
theorem En {hs:List Wr}(h:OkT q hs rs)(a:hs.length≤17): ∀b∈zW q hs,b.length=64:=by
 intro b hb;unfold zW at hb;rcases oJ.1 hb with rfl|hb
 ·exact bD h.q0 h.q1 a h.homes_in
 ·obtain⟨x,c,rfl⟩:=m9.1 hb;exact jX (h.data x c)
theorem Ea (n:Nat): ∀ {hs:List Wr} {rs:List Int},hs.length+rs.length≤n→OkT q hs rs→(∀b∈BL q hs rs,b.length=64)∧(BL q hs rs).length≤2*hs.length+rs.length:=by
 induction n with
 |zero=>
  intro hs rs c h;obtain rfl:hs= []:=nT zk;obtain rfl:rs= []:=nT (by simp only[nH] at c;omega);rw[bj];simp
 |succ n ih=>
  intro hs rs c h;by_cases g:0<rs.length
  ·obtain⟨d,a⟩:=ih (hs:=hs) (rs:=rs.drop 26) (by rw[m8];omega) (h.dropR 26);rw[bn q hs g];refine⟨?_,by rw[m7];rw[m8] at a;omega⟩;intro b hb;rcases oJ.1 hb with rfl|hb
   ·exact iW h.q0 h.q1 (by rw[mW];omega) (fun x i=>h.rev.bound nlR x (ot i))
   ·exact d b hb
  ·obtain rfl:rs= []:=nT zk;by_cases f:0<hs.length
   ·obtain⟨d,a⟩:=ih (hs:=hs.drop 17) (rs:= []) (by rw[m8];simp at c⊢;omega) (h.dropH 17);rw[ES q f];refine⟨?_,?_⟩
    ·intro b hb;rcases nu.1 hb with hb|hb
     ·exact En (h.takeH 17) (by rw[mW];omega) b hb
     ·exact d b hb
    ·rw[mL];have e:(zW q (hs.take 17)).length=(hs.take 17).length+1:=by unfold zW;simp
     rw[e,mW];rw[m8] at a;simp only[nH] at a⊢;omega
   ·obtain rfl:hs= []:=nT zk;rw[bj];simp
theorem Jh {bs:List (List Int)}(h: ∀b∈bs,b.length=64):bs.flatten.length=64*bs.length:=by
 induction bs with
 |nil=>rfl
 |cons b r ih=>rw[oC,mL,h b zn,ih (fun x a=>h x (by simp[a])),m7];omega
theorem ZD (w:World)(kd b c:Int)(d:w.cell? (zd 0)=some (zb 106))(f:w.cell? ⟨0,1,none⟩=some (zb 108))(g:w.cell? ⟨0,2,none⟩=some (zb 111))(h:w.cell? ⟨0,3,none⟩=some (zb 103)):
  Calls Tryz.prog 122 #[za kd,za b,za c] w fun e w'=>e= .returned (.agg #[zb 106,zb 108,zb 111,zb 103,za kd,za b,za c])∧zr 0 0 w w':=by
 have a:zr 0 0 w (w.alloc (zi #[zb 0,zb 0,zb 0,zb 0,za 0,za 0,za 0] 146)):=zr.al w;have i:=a.cell d;have j:=a.cell f;have k:=a.cell g;have l:=a.cell h;have HC:Hid (zr 0 0 w (w.alloc (zi #[zb 106,zb 108,zb 111,zb 103,za kd,za b,za c] 146))):=zr.al w;clear a;go_enter Tryz.func122,Tryz.ntmps122;go_wp2;exact mT (v:= .agg #[zb 106,zb 108,zb 111,zb 103,za kd,za b,za c]) (by simp[results,Tryz.results122,go_sem]) rfl ⟨rfl,HC.out⟩
structure Mag (w:World):Prop where
 m0:w.cell? (zd 0)=some (zb 106)
 m1:w.cell? ⟨0,1,none⟩=some (zb 108)
 m2:w.cell? ⟨0,2,none⟩=some (zb 111)
 m3:w.cell? ⟨0,3,none⟩=some (zb 103)
theorem Mag.chg (h:Mag w)(c:zr lo hi w w')(a:hi≤lo∨8≤lo):Mag w':=
 ⟨c.cell h.m0,c.cell h.m1,c.cell h.m2,c.cell h.m3⟩
theorem Mag.lt (h:Mag w):0<w.heap.size:=zV h.m0
theorem Uc (w:World)(q:Int)(b a n cap:Nat)(_hn:n≤1048576)(x:Mag w):
  Calls Tryz.prog 116 #[.agg #[za q,zj (some ⟨b,a,none⟩) n cap]] w fun e w'=>e= .returned (.agg #[zb 106,zb 108,zb 111,zb 103,za 3,za n,za q,zj (some ⟨b,a,none⟩) n cap])∧zr 0 0 w w':=by
 obtain⟨A,B,C⟩:=zU w (zi #[za q,zj (some ⟨b,a,none⟩) n cap] 166) (zi #[zb 0,zb 0,zb 0,zb 0,za 0,za 0,za 0,zc] 201);have u:zr 0 0 w ((w.alloc (zi #[za q,zj (some ⟨b,a,none⟩) n cap] 166)).alloc (zi #[zb 0,zb 0,zb 0,zb 0,za 0,za 0,za 0,zc] 201)):=(zr.al w).alloc _;have r:Hid _:=B;have t:Hid _:=C;have s:Hid _:=u;have D:Hid (Mag w):=x;have E:((w.alloc (zi #[za q,zj (some ⟨b,a,none⟩) n cap] 166)).alloc (zi #[zb 0,zb 0,zb 0,zb 0,za 0,za 0,za 0,zc] 201)).heap.size=w.heap.size+2:=A
 clear A B C u x;go_enter Tryz.func116,Tryz.ntmps116;go_upto_region 1 with fail;generalize ((w.alloc (zi #[za q,zj (some ⟨b,a,none⟩) n cap] 166)).alloc (zi #[zb 0,zb 0,zb 0,zb 0,za 0,za 0,za 0,zc] 201))=k at*;have HS:Hid ((fun w':World=>w'.heap[w.heap.size]?=some (zi #[za q,zj (some ⟨b,a,none⟩) n cap] 166)) k.drew):=r.out;refine hRg (fun w':World=>w'.heap[w.heap.size]?=some (zi #[za q,zj (some ⟨b,a,none⟩) n cap] 166)) ?_
 refine hT2 0 (.pointer (some ⟨w.heap.size,1,none⟩)) rfl ?_;go_simp;refine hTk 1 (zj (some ⟨b,a,none⟩) n cap) rfl (fun w' c=>by obtain⟨y,z,_,_⟩:=zw c;go_simp) HS.out ?_;go_simp;refine hT2 2 (za n) rfl ?_;go_simp;refine hT2 3 (zh w.heap.size) rfl ?_;go_simp;refine hTk 4 (za q) rfl (fun w' c=>by obtain⟨y,z,_,_⟩:=zw c;go_simp) HS.out ?_;go_simp;refine hT2 6 (.pointer (some ⟨w.heap.size,1,none⟩)) rfl ?_
 go_simp;refine hTk 7 (zj (some ⟨b,a,none⟩) n cap) rfl (fun w' c=>by obtain⟨y,z,_,_⟩:=zw c;go_simp) HS.out ?_;go_simp;have f:Hid (zr 0 0 w k.drew):=s.drew;have h:Hid (k.drew.heap[w.heap.size+1]?=some (zi #[zb 0,zb 0,zb 0,zb 0,za 0,za 0,za 0,zc] 201)):=t.out;have H:k.drew.heap.size=w.heap.size+2:=E;clear s t r;generalize k.drew=F at*;have i:=D.chg f zk;refine hOn 5 rfl ?_;refine zv 122 #[za 3,za n,za q] zq (ZD F 3 n q i.m0 i.m1 i.m2 i.m3) ?_
 rintro e G ⟨rfl,h2⟩;have d:Hid ((fun w':World=>w'.heap[w.heap.size]?=some (zi #[za q,zj (some ⟨b,a,none⟩) n cap] 166)) G):=h2.bt HS;have p:Hid _:=h2.bt h;have m:Hid _:=f.trans h2;refine⟨_,rfl,d,?_⟩;clear h2 i HS h f;go_simp;refine hTk 8 (.agg #[zb 106,zb 108,zb 111,zb 103,za 3,za n,za q,zj (some ⟨b,a,none⟩) n cap]) rfl (fun w' c=>zm) d.out ?_;go_simp;refine hOn 9 rfl ?_;refine wsR [zb 106,zb 108,zb 111,zb 103,za 3,za n,za q,zj (some ⟨b,a,none⟩) n cap] p ?_
 intro I j g;have o:Hid _:=(g.bk _ (zE d)).trans d;have HC3:Hid _:=m.step g;have l:Hid _:=j;refine⟨o,?_⟩;clear j g;refine hDn ?_;go_wp2;have hb:=l.out;exact mT (v:= .agg #[zb 106,zb 108,zb 111,zb 103,za 3,za n,za q,zj (some ⟨b,a,none⟩) n cap]) (by simp[results,Tryz.results116,go_sem,World.cell?,hb]) rfl ⟨rfl,HC3.out⟩
theorem XY (w:World)(q:Int)(b a n cap:Nat)(_hn:n≤1048576)(x:Mag w):
  Calls Tryz.prog 144 #[.agg #[za q,zj (some ⟨b,a,none⟩) n cap]] w fun e w'=>e= .returned (.agg #[zb 106,zb 108,zb 111,zb 103,za 2,za n,za q,zj (some ⟨b,a,none⟩) n cap])∧zr 0 0 w w':=by
 obtain⟨A,B,C⟩:=zU w (zi #[za q,zj (some ⟨b,a,none⟩) n cap] 169) (zi #[zb 0,zb 0,zb 0,zb 0,za 0,za 0,za 0,zc] 235);have u:zr 0 0 w ((w.alloc (zi #[za q,zj (some ⟨b,a,none⟩) n cap] 169)).alloc (zi #[zb 0,zb 0,zb 0,zb 0,za 0,za 0,za 0,zc] 235)):=(zr.al w).alloc _;have r:Hid _:=B;have t:Hid _:=C;have s:Hid _:=u;have D:Hid (Mag w):=x;have E:((w.alloc (zi #[za q,zj (some ⟨b,a,none⟩) n cap] 169)).alloc (zi #[zb 0,zb 0,zb 0,zb 0,za 0,za 0,za 0,zc] 235)).heap.size=w.heap.size+2:=A
 clear A B C u x;go_enter Tryz.func144,Tryz.ntmps144;go_upto_region 1 with fail;generalize ((w.alloc (zi #[za q,zj (some ⟨b,a,none⟩) n cap] 169)).alloc (zi #[zb 0,zb 0,zb 0,zb 0,za 0,za 0,za 0,zc] 235))=k at*;have HS:Hid ((fun w':World=>w'.heap[w.heap.size]?=some (zi #[za q,zj (some ⟨b,a,none⟩) n cap] 169)) k.drew):=r.out;refine hRg (fun w':World=>w'.heap[w.heap.size]?=some (zi #[za q,zj (some ⟨b,a,none⟩) n cap] 169)) ?_
 refine hT2 0 (.pointer (some ⟨w.heap.size,1,none⟩)) rfl ?_;go_simp;refine hTk 1 (zj (some ⟨b,a,none⟩) n cap) rfl (fun w' c=>by obtain⟨y,z,_,_⟩:=zw c;go_simp) HS.out ?_;go_simp;refine hT2 2 (za n) rfl ?_;go_simp;refine hT2 3 (zh w.heap.size) rfl ?_;go_simp;refine hTk 4 (za q) rfl (fun w' c=>by obtain⟨y,z,_,_⟩:=zw c;go_simp) HS.out ?_;go_simp;refine hT2 6 (.pointer (some ⟨w.heap.size,1,none⟩)) rfl ?_
 go_simp;refine hTk 7 (zj (some ⟨b,a,none⟩) n cap) rfl (fun w' c=>by obtain⟨y,z,_,_⟩:=zw c;go_simp) HS.out ?_;go_simp;have f:Hid (zr 0 0 w k.drew):=s.drew;have h:Hid (k.drew.heap[w.heap.size+1]?=some (zi #[zb 0,zb 0,zb 0,zb 0,za 0,za 0,za 0,zc] 235)):=t.out;have H:k.drew.heap.size=w.heap.size+2:=E;clear s t r;generalize k.drew=F at*;have i:=D.chg f zk;refine hOn 5 rfl ?_;refine zv 122 #[za 2,za n,za q] zq (ZD F 2 n q i.m0 i.m1 i.m2 i.m3) ?_
 rintro e G ⟨rfl,h2⟩;have d:Hid ((fun w':World=>w'.heap[w.heap.size]?=some (zi #[za q,zj (some ⟨b,a,none⟩) n cap] 169)) G):=h2.bt HS;have p:Hid _:=h2.bt h;have m:Hid _:=f.trans h2;refine⟨_,rfl,d,?_⟩;clear h2 i HS h f;go_simp;refine hTk 8 (.agg #[zb 106,zb 108,zb 111,zb 103,za 2,za n,za q,zj (some ⟨b,a,none⟩) n cap]) rfl (fun w' c=>zm) d.out ?_;go_simp;refine hOn 9 rfl ?_;refine wsR [zb 106,zb 108,zb 111,zb 103,za 2,za n,za q,zj (some ⟨b,a,none⟩) n cap] p ?_
 intro I j g;have o:Hid _:=(g.bk _ (zE d)).trans d;have HC3:Hid _:=m.step g;have l:Hid _:=j;refine⟨o,?_⟩;clear j g;refine hDn ?_;go_wp2;have hb:=l.out;exact mT (v:= .agg #[zb 106,zb 108,zb 111,zb 103,za 2,za n,za q,zj (some ⟨b,a,none⟩) n cap]) (by simp[results,Tryz.results144,go_sem,World.cell?,hb]) rfl ⟨rfl,HC3.out⟩
theorem UE (w:World)(xs:List Int)(hx:xs.length=64)(hB:Byt xs)(hG:Mag w):
  Calls Tryz.prog 143 #[.agg (xs.map (Value.int .u8)).toArray] w fun e w'=>e= .returned (.tuple #[.agg ((Zi xs).map (Value.int .u8)).toArray,.bool (decide (xs.take 4=mg))])∧zr 0 0 w w':=by
 obtain⟨cs,l⟩: ∃cs,cs=xs.map (Value.int .u8):=⟨_,rfl⟩;have L1:cs.length=64:=by rw[l];simpa using hx
 have L2: ∀v∈cs,v.oneCell'=true:=by rw[l];exact nf _ _
 have B:Hid _:=L1;have ac:Hid _:=L2;have C:Hid _:=l;have Hx:Hid _:=hx;have HB:Hid (Byt xs):=hB;have f:(Tryz.prog.info? 78).map (·.size)=some cs.length:=by rw[L1];kernel_rfl
 have U:=Tryz.underlying78;rw[←l];obtain⟨z1,z2,z3⟩:=zU w (zi cs.toArray 78) (zi Z64.toArray 78);have hA:zr 0 0 w ((w.alloc (zi cs.toArray 78)).alloc (zi Z64.toArray 78)):=(zr.al w).alloc _;obtain⟨h0,h1,h2,h3,h4,h5,h6,e7,T⟩: ∃h0 h1 h2 h3 h4 h5 h6:Int,hd7 xs= #[zb h0,zb h1,zb h2,zb h3,za h4,za h5,za h6]∧xs.take 4= [h0,h1,h2,h3]:=by
  refine⟨_,_,_,_,_,_,_,rfl,?_⟩
  match xs,hx with
  |a::b::c::d::r,_=>simp
 have Q:Hid _:=T;have ah:Hid _:=e7;have N:Hid (Mag w):=hG;clear L1 L2 l hx hB hG e7 T;go_enter Tryz.func143,Tryz.ntmps143;go_upto_region 1 with fail;simp only[qd];generalize (w.alloc (zi cs.toArray 78)).alloc (zi Z64.toArray 78)=wa at*;have o:Hid _:=z2;have D:Hid _:=z3;have HA:Hid _:=hA;have M:Hid (Mag wa):=N.chg hA zk;clear z2 z3 hA N;go_cut [8] (fun s8 wx=>s8= .bool (!decide (xs.take 4=mg))∧zr 0 0 wa wx)
 case first=>
  have HS:Hid (_∧_):=⟨o,M.chg (zr.drew (zr.refl 0 0 wa)) zk⟩;refine hRg (fun w':World=>w'.heap[w.heap.size]?=some (zi cs.toArray 78)∧Mag w') ?_;refine zI 0 (.agg cs.toArray) rfl zl zl zl (fun _ _ _ h=>h) (nl zl 78 (.tmp 1) rfl w.heap.size 0 rfl cs _ (fun w' j=>zy j.1) Tryz.underlying78 rfl f) HS ?_;go_simp;refine hTk 3 (.agg #[zb 106,zb 108,zb 111,zb 103]) rfl (fun w' j=>by have m0:=j.2.m0;have m1:=j.2.m1;have m2:=j.2.m2;have m3:=j.2.m3;go_simp) HS.out ?_
  go_simp;have hN:=QL wa.drew xs Hx HB;rw[←C.out,ah.out] at hN;refine hOn 1 rfl ?_;refine zv 161 #[.agg cs.toArray] zq hN ?_;rintro e w1 ⟨rfl,q⟩;have n:Hid (_∧_):=⟨(q.bk w.heap.size (zE HS.1)).trans HS.1,HS.2.chg q zk⟩;have aa:Hid _:=(zr.drew (zr.refl 0 0 wa)).trans q;refine⟨_,rfl,n,?_⟩;clear q hN;go_simp;refine hOn 2 rfl ?_;refine zv 162 #[.agg #[zb h0,zb h1,zb h2,zb h3,za h4,za h5,za h6]] zq (Xd w1 h0 h1 h2 h3 h4 h5 h6) ?_
  rintro e w2 ⟨rfl,s⟩;have HS2:Hid (_∧_):=⟨(s.bk w.heap.size (zE n.1)).trans n.1,n.2.chg s zk⟩;have ab:Hid _:=aa.trans s;refine⟨_,rfl,HS2,?_⟩;clear s;go_simp;have S:=jG w2 144 4 Tryz.underlying144 (xs:= [h0,h1,h2,h3]) (ys:=mg) (by rw[←Q.out];exact HB.take 4) EY rfl rfl;obtain⟨X,G⟩: ∃X,X=decide (xs.take 4=mg):=⟨_,rfl⟩;have R:decide ([h0,h1,h2,h3]=mg)=X:=by rw[G,Q.out]
  rw[R] at S;simp only[mg,nR,pU] at S;have af:Hid _:=G;clear R G;refine hOn 4 rfl ?_;refine jb (v:= .bool (!X)) (w':=w2) (by simp only[execOp,Act.eval];go_simp) ⟨HS2.out,?_⟩;go_simp;refine hDn ?_;go_wp2;go_meet;exact⟨by rw[af.out],ab⟩
 case rest=>
  obtain⟨rfl,k⟩:=hcut;generalize wc=g at*;have s3:=k.size;have HD:Hid _:=(k.bk w.heap.size (zE o)).trans o;have W:Hid _:=(k.bk (w.heap.size+1) (zE D)).trans D;have K:Hid _:=HA.trans k;clear k M o D HA;by_cases z:xs.take 4=mg
  ·have A:Hid (Zi xs= [0,0,0,0]++xs.drop 4):=by show _=_;unfold Zi;rw[mM z]
   have Hm:Hid _:=z;rw[mR z];obtain⟨Y,Z,c2,c3,cr,E⟩: ∃Y Z c2 c3 cr,cs=Y::Z::c2::c3::cr:=by
    have:=B.out
    match cs,this with
    |a::b::c::d::r,_=>exact⟨a,b,c,d,r,rfl⟩
   have y:Hid _:=E;have t:=HD.out;rw[E] at t;obtain⟨k0,k1,k2,k3,f0,f1,f2,f3⟩:g.cell? (zd w.heap.size)=some Y∧g.cell? ⟨w.heap.size,1,none⟩=some Z∧g.cell? ⟨w.heap.size,2,none⟩=some c2∧g.cell? ⟨w.heap.size,3,none⟩=some c3∧g.frozen? (zd w.heap.size)=false∧g.frozen? ⟨w.heap.size,1,none⟩=false∧g.frozen? ⟨w.heap.size,2,none⟩=false∧g.frozen? ⟨w.heap.size,3,none⟩=false:=by
    simp[World.cell?,World.frozen?,t]
   have ai:=fun ty=>bz g w.heap.size 64 Y Z c2 c3 ty k0 k1 k2 k3 f0 f1 f2 f3;have P:Hid _:=t;clear E t z;go_upto_region 4 with fail;have C4:zr w.heap.size (w.heap.size+1) g ((((g.setCell (zd w.heap.size) (zb 0)).setCell ⟨w.heap.size,1,none⟩ (zb 0)).setCell ⟨w.heap.size,2,none⟩ (zb 0)).setCell ⟨w.heap.size,3,none⟩ (zb 0)):=(((zr.setCell (p:=(zd w.heap.size)) (zr.refl _ _ _) (Or.inl ⟨mP _,m5 _⟩) _).setCell (p:=⟨w.heap.size,1,none⟩) (Or.inl ⟨mP _,m5 _⟩) _).setCell (p:=⟨w.heap.size,2,none⟩) (Or.inl ⟨mP _,m5 _⟩) _).setCell (p:=⟨w.heap.size,3,none⟩) (Or.inl ⟨mP _,m5 _⟩) _
   have D4:((((g.setCell (zd w.heap.size) (zb 0)).setCell ⟨w.heap.size,1,none⟩ (zb 0)).setCell ⟨w.heap.size,2,none⟩ (zb 0)).setCell ⟨w.heap.size,3,none⟩ (zb 0)).heap[w.heap.size]?=some (zi (List.toArray (zb 0::zb 0::zb 0::zb 0::cr)) 78):=by
    have e0:=oP g w.heap.size 0 _ _ (zb 0) P;have e1:=oP _ w.heap.size 1 _ _ (zb 0) e0;have e2:=oP _ w.heap.size 2 _ _ (zb 0) e1;have e3:=oP _ w.heap.size 3 _ _ (zb 0) e2;simpa using e3
   generalize ((((g.setCell (zd w.heap.size) (zb 0)).setCell ⟨w.heap.size,1,none⟩ (zb 0)).setCell ⟨w.heap.size,2,none⟩ (zb 0)).setCell ⟨w.heap.size,3,none⟩ (zb 0))=w4 at*;obtain⟨i,u⟩: ∃i,i=Value.int .u8 0::zb 0::zb 0::zb 0::cr:=⟨_,rfl⟩;have I:i=(Zi xs).map (Value.int .u8):=by
    have h1:=C.out;have h2:=Hx.out;rw[y.out] at h1;rw[u,A.out]
    match xs,h2,h1 with
    |a::b::c::d::r,_,h1=>
     simp only[nR,pF] at h1;obtain⟨_,_,_,_,rfl⟩:=h1;simp
   have ag:Hid _:=I;have x:Hid (i.length=64):=by
    have h1:=B.out;rw[y.out] at h1;show i.length=64;rw[u];simpa using h1
   have O:Hid (∀v∈i,v.oneCell'=true):=by
    show∀v∈i,v.oneCell'=true;rw[I];exact nf _ _
   have m:(Tryz.prog.info? 78).map (·.size)=some i.length:=by rw[x.out];kernel_rfl
   rw[←u] at D4;have ae:Hid _:=zy D4;have ad:Hid _:=(C4.bk (w.heap.size+1) (zE W)).trans W;have L:Hid _:=K.step C4;clear C4 D4 u I k0 k1 k2 k3 f0 f1 f2 f3 ai P HD W;go_wp2_with (first
    |(refine nN rfl 78 (.tmp 1) rfl w.heap.size 0 rfl i _ ae U rfl m ?_)
    |(refine wpList_store_row rfl 78 (.tmp 2) (.tmp 11) rfl rfl (w.heap.size+1) rfl i Z64 78 rfl ad (by rw[zN];exact x) m O ?_;intro V F H))
   have J:(loadVar 78 (zd (w.heap.size+1))).run Tryz.prog V= .ok (.agg i.toArray) V:=nd _ _ _ _ i _ (zy F) Tryz.underlying78 rfl m;refine mT (v:= .tuple #[.agg i.toArray,.bool true]) (JK Tryz.results143 rfl rfl J) rfl ⟨?_,L.step H⟩;rw[ag.out,mR Hm.out]
  ·have A:Hid (Zi xs=xs):=by show _=_;unfold Zi;rw[mN z]
   have Hm:Hid _:=z;rw[mY z];have HR:Hid _:=zy HD;clear z;go_wp2_with (first
    |(refine nN rfl 78 (.tmp 1) rfl w.heap.size 0 rfl cs _ HR U rfl f ?_)
    |(refine wpList_store_row rfl 78 (.tmp 2) (.tmp 9) rfl rfl (w.heap.size+1) rfl cs Z64 78 rfl W (by rw[zN];exact B) f ac ?_;intro V F H))
   have J:(loadVar 78 (zd (w.heap.size+1))).run Tryz.prog V= .ok (.agg cs.toArray) V:=nd _ _ _ _ cs _ (zy F) Tryz.underlying78 rfl f;refine mT (v:= .tuple #[.agg cs.toArray,.bool false]) (JK Tryz.results143 rfl rfl J) rfl ⟨?_,K.step H⟩;rw[A.out,C.out,mY Hm.out]
abbrev oL:= @Obj.cells.injEq
def jo (ts:List (Int×Bool)):List Value:=ts.flatMap fun t=> [za t.1,.bool t.2]
theorem Qu (ts:List (Int×Bool)):(jo ts).length=ts.length*2:=by
 unfold jo
 induction ts with
 |nil=>rfl
 |cons t r ih=>rw[nX,mL,ih,m7];simp;omega
theorem kr (ts:List (Int×Bool))(t:Int×Bool):jo (ts++ [t])=jo ts++ [za t.1,.bool t.2]:=by unfold jo;simp
theorem YM (ts:List (Int×Bool))(i:Nat)(h:i<ts.length):(jo ts)[i*2]?=some (za (ts.getD i (0,false)).1)∧(jo ts)[i*2+1]?=some (.bool (ts.getD i (0,false)).2):=by
 induction ts generalizing i with
 |nil=>simp at h
 |cons t r ih=>
  cases i with
  |zero=>simp[jo]
  |succ i=>
   have:=ih i (by simpa using h);have e:jo (t::r)=za t.1:: .bool t.2::jo r:=by simp[jo]
   rw[e,show(i+1)*2=i*2+1+1 by omega];simpa using this
def je (w:World) (base:Nat) (v:Value) (ts:List (Int×Bool)):Prop:=w.ownsRow base 174 2 v ts.length (jo ts)
theorem je.lt (h:je w base v ts): ∀g,v.ownBlock=some g→base≤g∧g<w.heap.size:=np h
theorem je.chg {l r:Nat}(h:je w base v ts)(c:zr l r w w')(d: ∀g,v.ownBlock=some g→g<l∨r≤g):je w' base v ts:=by
 obtain⟨h1,h2⟩:=h;refine⟨h1,?_⟩;rcases h2 with h2|⟨g,cap,a,e,f,b,r⟩
 ·exact Or.inl h2
 ·refine Or.inr ⟨g,cap,a,e,f,?_,r⟩;rw[c.block g (zE b) (d g (by rw[e];rfl))];exact b
theorem je.nil (w:World)(base:Nat):je w base (zc) []:=rG _ _ _ _
theorem je.cells (h:je w base v ts)(h0:0<ts.length): ∃g cap,v=zg g ts.length cap∧base≤g∧g<w.heap.size∧
  ∀i,i<ts.length→w.cell? ⟨g,0+i*2,none⟩=some (za (ts.getD i (0,false)).1)∧w.cell? ⟨g,0+i*2+1,none⟩=some (.bool (ts.getD i (0,false)).2):=by
 have a:w.ownsRow base 174 2 v ts.length (jo ts):=h;rcases h.2 with⟨_,e⟩|⟨g,cap,b,rfl,f,j,_⟩
 ·omega
 ·refine⟨g,cap,rfl,f,(zE j),fun i hi=>?_⟩;obtain⟨c,d⟩:=YM ts i hi;rw[ni];refine⟨?_,?_⟩
  ·exact(nA a (i*2) zk).trans c
  ·exact(nA a (i*2+1) zk).trans d
theorem Tryz.infoG:(Tryz.prog.info? 174).map (fun i=>(i.zero,i.size,i.bytes))=some (some (.agg #[za 0,.bool false]),2,16):=zl
theorem Uz {o:Oper}{a:Act}{K:Act→World→Prop}{Q:Exit→Act→World→Prop}(s x:Operand)
  (t:o.op= .call {callee:= .builtin .append,args:= #[s,x],argTypes:= #[167,167]}) (base:Nat) (v:Value) (ts:List (Int×Bool)) (hs:a.eval s=v) (f:je w base v ts)
  (b c:Nat) (p:Int×Bool) (y:a.eval x=zg b 1 c) (r:w.heap[b]?=some (zi #[za p.1,.bool p.2] 174)) (B:ts.length+1≤2097152) (d:base≤w.heap.size)
  (h: ∀g w',je w' base g (ts++ [p])→w.grownBy w' v.ownBlock→K (a.put o.dst g) w'):o.wp Tryz.prog a w K Q:=by
 obtain⟨i,hi,l,m,n⟩:=nc Tryz.infoG;refine oS w s x 167 t base 174 i _ 2 16 Tryz.underlying167 hi l m n rfl zk v ts.length _ hs f (zd b) 1 c [za p.1,.bool p.2] y rfl ?_ ?_ (by unfold maxLen;omega) zk d ?_
 ·intro j u e;have k:j<2:=by have:=(nD.1 e).1;simpa using this
  rw[Go.WideShapes.add_plain,ni];obtain⟨z,A,_,_⟩:=zw r
  match j,k with
  |0,_=>simp at e;subst e;exact z
  |1,_=>simp at e;subst e;exact A
 ·intro u q;simp at q;rcases q with rfl|rfl<;>rfl
 ·intro g w' h1 h2 _;exact h g w' (by unfold je;rw[mL,kr];exact h1) h2
theorem zu.grown (h:zu w base e v xs)(f:w.grownBy w' row)(i: ∀g,row=some g→v.ownBlock≠some g):zu w' base e v xs:=by
 obtain⟨h1,h2⟩:=h;refine⟨h1,?_⟩;rcases h2 with h2|⟨g,cap,a,c,d,b,r⟩
 ·exact Or.inl h2
 ·refine Or.inr ⟨g,cap,a,c,d,?_,r⟩;rw[f.block g (zE b) (fun e=>i g e.symm (by rw[c];rfl))];exact b
theorem je.grown {xs:List (Int×Bool)}(h:je w base v xs)(f:w.grownBy w' row)(i: ∀g,row=some g→v.ownBlock≠some g):je w' base v xs:=by
 obtain⟨h1,h2⟩:=h;refine⟨h1,?_⟩;rcases h2 with h2|⟨g,cap,a,c,d,b,r⟩
 ·exact Or.inl h2
 ·refine Or.inr ⟨g,cap,a,c,d,?_,r⟩;rw[f.block g (zE b) (fun e=>i g e.symm (by rw[c];rfl))];exact b
theorem je.elem {g:Nat}(h:je w base v ts)(b:v.ownBlock=some g): ∃a,w.heap[g]?=some (zi a 174):=by
 obtain⟨_,h2⟩:=h;rcases h2 with⟨rfl,_⟩|⟨d,cap,a,rfl,_,c,_⟩
 ·cases b
 ·cases b;exact⟨a,c⟩
theorem je.apart {base':Nat}{u:Value}(h:je w base v ts)(k:zu w base' 5 u xs): ∀g,v.ownBlock=some g→u.ownBlock≠some g:=fun g c d=>by
 obtain⟨e,b⟩:=h.elem c
 obtain⟨f,a⟩:=k.elem d
 rw[b] at a
 simp only[nS,oL] at a
 exact absurd a.2.1 zp
theorem zr.ofGrown0 {B:Nat}(h:w.grownBy w' row)(b: ∀k,row=some k→B≤k):zr B w.heap.size w w':=zr.ofGrown h (fun k e a=>⟨b k e,a⟩)
theorem Kl {ops:Array Oper}{rest:List Oper}{o:Oper}{a:Act}{Q:Exit→Act→World→Prop}(r:o.guard=none)(s x:Operand)
  (F:o.op= .call {callee:= .builtin .append,args:= #[s,x],argTypes:= #[22,22]})
  (base:Nat) (n:Value) (xs:List Int) (hs:a.eval s=n) (D:zu w base 5 n xs) (d:base≤w.heap.size) (lo hi:Nat) (B:Value) (ys:List Int) (H:a.eval x=B) (G:zC w lo hi .u8 B ys) (A:0<ys.length) (J:xs.length+ys.length≤1048576)
  (h: ∀p w',zu w' base 5 p (xs++ys)→w.grownBy w' n.ownBlock→wpList Tryz.prog ops Q rest (a.put o.dst p) w'):wpList Tryz.prog ops Q (o::rest) a w:=by
 refine oV r fun K hK=>?_;obtain⟨i,hi,t,v,y⟩:=nc Tryz.infoU1;obtain⟨C,cap,rfl,_,_,f⟩:=G;obtain⟨b,c,rfl,E⟩: ∃b c,C=some ⟨b,c,none⟩∧ ∀i,i<ys.length→w.cell? ⟨b,c+i,none⟩=some (zb (ys.getD i 0)):=by
  rcases f with e|⟨b,c,e,_,_,h3⟩
  ·rw[e] at A;simp at A
  ·exact⟨b,c,e,h3⟩
 have q: ∀j u,(ys.map (Value.int .u8))[j]?=some u→w.cell? ((⟨b,c,none⟩:Addr).add j)=some u:=by
  intro j u z;have k:j<ys.length:=by have:=(nD.1 z).1;simpa using this
  rw[Addr.add_mid,E j k,←z];simp[k]
 have m:w.ownsRow base 5 1 n xs.length (xs.map (Value.int .u8)):=D;refine oS _ s x 22 F base 5 i (zb 0) 1 1 Tryz.underlying22 hi t v y rfl zp n xs.length (xs.map (Value.int .u8)) hs m ⟨b,c,none⟩ ys.length cap (ys.map (Value.int .u8)) H zn q (ints_oneCell _ _) (by unfold maxLen;omega) zk d ?_;intro p I l g _;refine hK _ _ (h p I ?_ g);unfold zu;rw[mL,m6];exact l
theorem Xh (w:World)(q:Int)(ts:List (Int×Bool))(b off cap:Nat)(ay:1≤q)(ap:q≤4294967295)(av:1≤ts.length)(hl:ts.length≤17)(hR:z8 (ts.map (·.1)) ts.length)
  (h1: ∀i,i<ts.length→w.cell? ⟨b,off+i*2,none⟩=some (za (ts.getD i (0,false)).1)∧w.cell? ⟨b,off+i*2+1,none⟩=some (.bool (ts.getD i (0,false)).2)):
  Calls Tryz.prog 96 #[.agg #[za q,zj (some ⟨b,off,none⟩) ts.length cap]] w fun e w'=> ∃v,e= .returned v∧zu w' w.heap.size 5 v (qk (zD 2 ts.length q++zP ts))∧zr 0 0 w w':=by
 have C0:zr 0 0 w (w.alloc (zi #[za q,zj (some ⟨b,off,none⟩) ts.length cap] 169)):=zr.al w;have B0:=zt w (zi #[za q,zj (some ⟨b,off,none⟩) ts.length cap] 169);have ah:=pn2 (v:=(ts.length:Int));have ak:=pn4 (v:=q) zk ap;have HY:Hid ((zD 2 (ts.length:Int) q).length=12):=Ji ah ak;have am:=fun w=>jC w q;rw[show qA q=true from by unfold qA;rw[←Bool.decide_and];exact mR ⟨ay,ap⟩] at am;have ai:=fun w=>QB w 2 (ts.length:Int) q zk zk zk ah ak
 have HR:Hid (z8 (ts.map (·.1)) ts.length):=hR;have H1:Hid (∀i,i<ts.length→w.cell? ⟨b,off+i*2,none⟩=some (za (ts.getD i (0,false)).1)∧w.cell? ⟨b,off+i*2+1,none⟩=some (.bool (ts.getD i (0,false)).2)):=h1;have s0:(w.alloc (zi #[za q,zj (some ⟨b,off,none⟩) ts.length cap] 169)).heap.size=w.heap.size+1:=zn;obtain⟨n,hn⟩: ∃n,n=ts.length:=⟨_,rfl⟩;have Hn:Hid (n=ts.length):=hn;rw[←hn] at av hl ai HY B0 C0 s0⊢
 clear hR h1 ah ak hn;obtain⟨k0,k1,_,_⟩:=zw B0;go_enter Tryz.func96,Tryz.ntmps96;go_wp2_with fail;generalize w.alloc (zi #[za q,zj (some ⟨b,off,none⟩) n cap] 169)=w0 at*;refine(am _).mono ?_;rintro e w1 ⟨rfl,rfl⟩;have aw: ¬((n:Int)<1):=zk;have ax: ¬((17:Int)<(n:Int)):=zk;clear am;go_wp2_with fail;clear aw ax;refine(ai _).mono ?_;rintro e A ⟨v2,rfl,Z,h2⟩;have an:Hid (A.heap[w.heap.size]?=some (zi #[za q,zj (some ⟨b,off,none⟩) n cap] 169)):=h2.bt B0
 obtain⟨g2,ar,rfl⟩:=Z.some_of (by rw[HY.out];omega);rw[HY.out] at Z⊢;have U:Hid (zu A (w.heap.size+1) 5 (zg g2 12 ar) (zD 2 (n:Int) q)):=Z.base (fun g W=>by have:=(Z.lt g W).1;omega);have T:Hid (zr 0 0 w A):=C0.trans h2;clear ai Z h2 B0 C0 k0 k1;go_wp2;go_loopw [5,6] (fun o x wr=> ∃k:Nat,k≤n∧x=za k∧(∃g cp,o=zg g (12+3*k) cp)∧zu wr (w.heap.size+1) 5 o (zD 2 (n:Int) q++zP (ts.take k))∧wr.heap[w.heap.size]?=some (zi #[za q,zj (some ⟨b,off,none⟩) n cap] 169)∧zr 0 0 w wr) (fun _ x _=>n-(intOf x).toNat)
 case atStart=>exact⟨0,mX _,rfl,⟨_,_,rfl⟩,by rw[oI];show zu _ _ _ _ (_++ []);rw[nw];exact U.out,an.out,T.out⟩
 case round=>
  clear U an T;obtain⟨k,hk,rfl,⟨g,cp,rfl⟩,ho,hb,hc⟩:=hrel;have ao:=Js (HR.bound (by rw[mO];exact mP _));have X:(zD 2 (n:Int) q++zP (ts.take k)).length=12+3*k:=by rw[mL,HY.out,Jr (fun x hx=>ao x (ot hx)),mW];have:=Hn.out;omega
  by_cases aH:k<n
  ·have u:k<ts.length:=by have:=Hn.out;omega
   obtain⟨r1,r2⟩:=H1.out k u;have c1:=hc.cell r1;have cb:=hc.cell r2;clear r1 r2;have hi:(k:Int)<(n:Int):=zk;have hx:ts.getD k (0,false)=ts[k]:=by simp[u]
   obtain⟨g0,g1⟩:=ao _ (nj u);rw[←hx] at g0 g1;obtain⟨k0,k1,_,_⟩:=zw hb;have HC:Hid (zr 0 0 w wr):=hc;have HO:Hid (zu wr (w.heap.size+1) 5 (zg g (12+3*k) cp) (zD 2 (n:Int) q++zP (ts.take k))):=ho;have HB:Hid (wr.heap[w.heap.size]?=some (zi #[za q,zj (some ⟨b,off,none⟩) n cap] 169)):=hb;have HT:Hid (zD 2 (n:Int) q++zP (ts.take (k+1))=zD 2 (n:Int) q++zP (ts.take k)++zx (ts.getD k (0,false)).1 2++ [if(ts.getD k (0,false)).2 then 1 else 0]):=by show _=_;rw[Yi u];unfold XF;rw[←nk,←nk]
   have M:Hid _:=Zc ⟨g0,g1⟩;have s:Hid _:=X;have Y:=jd wr (ts.getD k (0,false)).1;rw[show(decide (0≤(ts.getD k (0,false)).1)&&decide ((ts.getD k (0,false)).1<2048))=true from by rw[mR g0,mR g1];rfl] at Y;have HF:Hid (∀A:World,qj wr A→Hid (zu A (w.heap.size+1) 5 (zg g (12+3*k) cp) (zD 2 (n:Int) q++zP (ts.take k))∧A.heap[w.heap.size]?=some (zi #[za q,zj (some ⟨b,off,none⟩) n cap] 169)∧zr 0 0 w A∧A.cell? ⟨b,off+k*2+1,none⟩=some (.bool (ts.getD k (0,false)).2))):=fun A h=>⟨HO.chg (h.chg 0 0) (by intro g _;omega),by rw[h.heap];exact HB,HC.trans (h.chg 0 0),(h.cell _).trans cb⟩
   have aq:Hid (∀j,k=j+1→wr.cell? ⟨b,off+j*2,none⟩=some (za (ts.getD j (0,false)).1)∧(ts.getD j (0,false)).1<(ts.getD k (0,false)).1):=fun j e=>⟨hc.cell (H1 j zk).1,by rw[e,←EM,←EM];exact HR.ahead zk⟩;have aB:=zV cb;have aC:=zV (H1 k u).1;generalize (ts.getD k (0,false)).1=y at*;generalize (ts.getD k (0,false)).2=ee at*;generalize zD 2 (n:Int) q++zP (ts.take k)=L at*;go_wp2_with fail;refine Y.mono ?_
   rintro e A ⟨rfl,rfl⟩;by_cases au:k=0
   ·subst au;simp only[pZ,oF] at c1;go_wp2;go_quiet (fail);go_wp2_with fail;have V:=HF.out _ ((qj.refl A).drewN nq);generalize A.drewN nq=w3 at*;have ae:Hid (zu w3 (w.heap.size+1) 5 (zg g (12+3*0) cp) L):=V.out.1;have B:Hid _:=V.out.2.1;have aa:Hid _:=V.out.2.2.1;have ac:Hid _:=V.out.2.2.2;have Y:=zX w3 y 2;refine Y.mono ?_;rintro e w4 ⟨r,rfl,K,P⟩;have s3:=(zE B);have s4:=P.size;have af:Hid (zu w4 (w.heap.size+1) 5 (zg g (12+3*0) cp) L):=ae.chg P (by intro g _;omega)
    have ag:Hid (zC w4 w3.heap.size w4.heap.size .u8 r (zx y 2)):=K.view (by rw[M.out];omega) (fun g W=>(K.lt g W).2);have ab:Hid _:=aa.trans P;have N:Hid _:=(P.bk _ (zE B)).trans B;have ad:Hid _:=P.cell ac;obtain⟨r0,r1,r2,rfl⟩:=zF K;go_wp2_with (at_builtin;refine qp rfl (.tmp 64) (.tmp 71) rfl (w.heap.size+1) _ L rfl af.out zk _ _ _ (zx y 2) rfl ag.out (by rw[M.out];omega) (by rw[M.out,s.out];omega) ?_)
    intro v' a R H;have E:Hid (zu a (w.heap.size+1) 5 v' (L++zx y 2)):=R;have O:Hid _:=ab.step H;have Q:=(zE N);have m:Hid _:=(H.bk _ Q).trans N;have ce:=H.cell ad;have t:=(zE m);obtain⟨az,aA,_,_⟩:=zw m;obtain⟨vg,vc,rfl⟩:=R.some_of (by rw[mL,M.out];omega);have D:Hid ((L++zx y 2).length=12+3*0+2):=by show _=_;rw[mL,M.out,s.out]
    rw[D.out] at E⊢;simp only[pZ,oF] at ce
    cases ee with
    |true=>
     have d:Hid (zD 2 (n:Int) q++zP (ts.take (0+1))=L++(zx y 2++ [1])):=by show _=_;rw[HT.out];simp
     have p:zr 0 0 a (a.alloc (zi #[zb 1] 5)):=zr.al a;have F:Hid (zu (a.alloc (zi #[zb 1] 5)) (w.heap.size+1) 5 (zg vg (12+3*0+2) vc) (L++zx y 2)):=E.chg p (by intro g _;omega);have G:Hid (zC (a.alloc (zi #[zb 1] 5)) a.heap.size (a.heap.size+1) .u8 (zg a.heap.size 1 1) [1]):=by
      refine⟨_,1,rfl,zn,⟨zn,zn⟩,Or.inr ⟨_,0,rfl,mP _,m5 _,fun i hi=>?_⟩⟩;have aj:i<1:=by simpa using hi
      have I:=zt a (zi #[zb 1] 5);simp only[World.cell?,I];rcases i with _|i
      all_goals first|rfl|omega
     have C:Hid _:=O.trans p;have c:Hid _:=(p.bk _ t).trans m;have b6:Hid (w.heap.size+1≤(a.alloc (zi #[zb 1] 5)).heap.size):=by show _≤_;have:=p.size;omega
     go_wp2_with (at_builtin;refine qp rfl (.tmp 79) (.tmp 80) rfl (w.heap.size+1) _ (L++zx y 2) rfl F.out b6.out _ _ _ [1] rfl G.out zn (by rw[D.out];show _+1≤_;omega) ?_);intro S w7 J f;have HO7:Hid (zu w7 (w.heap.size+1) 5 S (zD 2 (n:Int) q++zP (ts.take (0+1)))):=by show zu _ _ _ _ _;rw[d.out];exact J
     have HC7:Hid _:=C.step f;have HB7:Hid _:=(f.bk _ (zE c)).trans c;have HV7:Hid (∃g cp,S=zg g (12+3*(0+1)) cp):=by
      have l:(zD 2 (n:Int) q++zP (ts.take (0+1))).length=12+3*(0+1):=by
       rw[d.out,mL,mL,M.out,s.out];show _+(2+1)=_;omega
      obtain⟨g',c',e'⟩:=HO7.some_of (by rw[l];omega);exact⟨g',c',by rw[e',l]⟩
     go_wp2;go_roundw
     case rel=>exact⟨0+1,zk,by go_num,HV7.out,HO7.out,HB7.out,HC7.out⟩
     case measure=>simp[intOf];omega
    |false=>
     have d:Hid (zD 2 (n:Int) q++zP (ts.take (0+1))=L++(zx y 2++ [0])):=by show _=_;rw[HT.out];simp
     have p:zr 0 0 a (a.alloc (zi #[zb 0] 5)):=zr.al a;have F:Hid (zu (a.alloc (zi #[zb 0] 5)) (w.heap.size+1) 5 (zg vg (12+3*0+2) vc) (L++zx y 2)):=E.chg p (by intro g _;omega);have G:Hid (zC (a.alloc (zi #[zb 0] 5)) a.heap.size (a.heap.size+1) .u8 (zg a.heap.size 1 1) [0]):=by
      refine⟨_,1,rfl,zn,⟨zn,zn⟩,Or.inr ⟨_,0,rfl,mP _,m5 _,fun i hi=>?_⟩⟩;have aj:i<1:=by simpa using hi
      have I:=zt a (zi #[zb 0] 5);simp only[World.cell?,I];rcases i with _|i
      all_goals first|rfl|omega
     have C:Hid _:=O.trans p;have c:Hid _:=(p.bk _ t).trans m;have b6:Hid (w.heap.size+1≤(a.alloc (zi #[zb 0] 5)).heap.size):=by show _≤_;have:=p.size;omega
     go_wp2_with (at_builtin;refine qp rfl (.tmp 82) (.tmp 83) rfl (w.heap.size+1) _ (L++zx y 2) rfl F.out b6.out _ _ _ [0] rfl G.out zn (by rw[D.out];show _+1≤_;omega) ?_);intro S w7 J f;have HO7:Hid (zu w7 (w.heap.size+1) 5 S (zD 2 (n:Int) q++zP (ts.take (0+1)))):=by show zu _ _ _ _ _;rw[d.out];exact J
     have HC7:Hid _:=C.step f;have HB7:Hid _:=(f.bk _ (zE c)).trans c;have HV7:Hid (∃g cp,S=zg g (12+3*(0+1)) cp):=by
      have l:(zD 2 (n:Int) q++zP (ts.take (0+1))).length=12+3*(0+1):=by
       rw[d.out,mL,mL,M.out,s.out];show _+(2+1)=_;omega
      obtain⟨g',c',e'⟩:=HO7.some_of (by rw[l];omega);exact⟨g',c',by rw[e',l]⟩
     go_wp2;go_roundw
     case rel=>exact⟨0+1,zk,by go_num,HV7.out,HO7.out,HB7.out,HC7.out⟩
     case measure=>simp[intOf];omega
   ·obtain⟨j,rfl⟩: ∃j,k=j+1:=⟨k-1,zk⟩;obtain⟨c0,aG⟩:=aq.out j rfl;have aE:(0:Int)<(j:Int)+1:=zk;have aF:(j:Int)<(n:Int):=zk;generalize (ts.getD j (0,false)).1=z at*;go_wp2;go_quiet (fail);go_wp2_with fail;have V:=HF.out _ ((qj.refl A).drewN nq);generalize A.drewN nq=w3 at*;have ae:Hid (zu w3 (w.heap.size+1) 5 (zg g (12+3*(j+1)) cp) L):=V.out.1;have B:Hid _:=V.out.2.1;have aa:Hid _:=V.out.2.2.1;have ac:Hid _:=V.out.2.2.2
    have Y:=zX w3 y 2;refine Y.mono ?_;rintro e w4 ⟨r,rfl,K,P⟩;have s3:=(zE B);have s4:=P.size;have af:Hid (zu w4 (w.heap.size+1) 5 (zg g (12+3*(j+1)) cp) L):=ae.chg P (by intro g _;omega);have ag:Hid (zC w4 w3.heap.size w4.heap.size .u8 r (zx y 2)):=K.view (by rw[M.out];omega) (fun g W=>(K.lt g W).2);have ab:Hid _:=aa.trans P;have N:Hid _:=(P.bk _ (zE B)).trans B;have ad:Hid _:=P.cell ac;obtain⟨r0,r1,r2,rfl⟩:=zF K
    go_wp2_with (at_builtin;refine qp rfl (.tmp 64) (.tmp 71) rfl (w.heap.size+1) _ L rfl af.out zk _ _ _ (zx y 2) rfl ag.out (by rw[M.out];omega) (by rw[M.out,s.out];omega) ?_);intro v' a R H;have E:Hid (zu a (w.heap.size+1) 5 v' (L++zx y 2)):=R;have O:Hid _:=ab.step H;have Q:=(zE N);have m:Hid _:=(H.bk _ Q).trans N;have ce:=H.cell ad;have t:=(zE m);obtain⟨az,aA,_,_⟩:=zw m;obtain⟨vg,vc,rfl⟩:=R.some_of (by rw[mL,M.out];omega)
    have D:Hid ((L++zx y 2).length=12+3*(j+1)+2):=by show _=_;rw[mL,M.out,s.out]
    rw[D.out] at E⊢
    cases ee with
    |true=>
     have d:Hid (zD 2 (n:Int) q++zP (ts.take ((j+1)+1))=L++(zx y 2++ [1])):=by show _=_;rw[HT.out];simp
     have p:zr 0 0 a (a.alloc (zi #[zb 1] 5)):=zr.al a;have F:Hid (zu (a.alloc (zi #[zb 1] 5)) (w.heap.size+1) 5 (zg vg (12+3*(j+1)+2) vc) (L++zx y 2)):=E.chg p (by intro g _;omega);have G:Hid (zC (a.alloc (zi #[zb 1] 5)) a.heap.size (a.heap.size+1) .u8 (zg a.heap.size 1 1) [1]):=by
      refine⟨_,1,rfl,zn,⟨zn,zn⟩,Or.inr ⟨_,0,rfl,mP _,m5 _,fun i hi=>?_⟩⟩;have aj:i<1:=by simpa using hi
      have I:=zt a (zi #[zb 1] 5);simp only[World.cell?,I];rcases i with _|i
      all_goals first|rfl|omega
     have C:Hid _:=O.trans p;have c:Hid _:=(p.bk _ t).trans m;have b6:Hid (w.heap.size+1≤(a.alloc (zi #[zb 1] 5)).heap.size):=by show _≤_;have:=p.size;omega
     go_wp2_with (at_builtin;refine qp rfl (.tmp 79) (.tmp 80) rfl (w.heap.size+1) _ (L++zx y 2) rfl F.out b6.out _ _ _ [1] rfl G.out zn (by rw[D.out];show _+1≤_;omega) ?_);intro S w7 J f;have HO7:Hid (zu w7 (w.heap.size+1) 5 S (zD 2 (n:Int) q++zP (ts.take ((j+1)+1)))):=by show zu _ _ _ _ _;rw[d.out];exact J
     have HC7:Hid _:=C.step f;have HB7:Hid _:=(f.bk _ (zE c)).trans c;have HV7:Hid (∃g cp,S=zg g (12+3*((j+1)+1)) cp):=by
      have l:(zD 2 (n:Int) q++zP (ts.take ((j+1)+1))).length=12+3*((j+1)+1):=by
       rw[d.out,mL,mL,M.out,s.out];show _+(2+1)=_;omega
      obtain⟨g',c',e'⟩:=HO7.some_of (by rw[l];omega);exact⟨g',c',by rw[e',l]⟩
     go_wp2;go_roundw
     case rel=>exact⟨(j+1)+1,zk,by go_num,HV7.out,HO7.out,HB7.out,HC7.out⟩
     case measure=>simp[intOf];omega
    |false=>
     have d:Hid (zD 2 (n:Int) q++zP (ts.take ((j+1)+1))=L++(zx y 2++ [0])):=by show _=_;rw[HT.out];simp
     have p:zr 0 0 a (a.alloc (zi #[zb 0] 5)):=zr.al a;have F:Hid (zu (a.alloc (zi #[zb 0] 5)) (w.heap.size+1) 5 (zg vg (12+3*(j+1)+2) vc) (L++zx y 2)):=E.chg p (by intro g _;omega);have G:Hid (zC (a.alloc (zi #[zb 0] 5)) a.heap.size (a.heap.size+1) .u8 (zg a.heap.size 1 1) [0]):=by
      refine⟨_,1,rfl,zn,⟨zn,zn⟩,Or.inr ⟨_,0,rfl,mP _,m5 _,fun i hi=>?_⟩⟩;have aj:i<1:=by simpa using hi
      have I:=zt a (zi #[zb 0] 5);simp only[World.cell?,I];rcases i with _|i
      all_goals first|rfl|omega
     have C:Hid _:=O.trans p;have c:Hid _:=(p.bk _ t).trans m;have b6:Hid (w.heap.size+1≤(a.alloc (zi #[zb 0] 5)).heap.size):=by show _≤_;have:=p.size;omega
     go_wp2_with (at_builtin;refine qp rfl (.tmp 82) (.tmp 83) rfl (w.heap.size+1) _ (L++zx y 2) rfl F.out b6.out _ _ _ [0] rfl G.out zn (by rw[D.out];show _+1≤_;omega) ?_);intro S w7 J f;have HO7:Hid (zu w7 (w.heap.size+1) 5 S (zD 2 (n:Int) q++zP (ts.take ((j+1)+1)))):=by show zu _ _ _ _ _;rw[d.out];exact J
     have HC7:Hid _:=C.step f;have HB7:Hid _:=(f.bk _ (zE c)).trans c;have HV7:Hid (∃g cp,S=zg g (12+3*((j+1)+1)) cp):=by
      have l:(zD 2 (n:Int) q++zP (ts.take ((j+1)+1))).length=12+3*((j+1)+1):=by
       rw[d.out,mL,mL,M.out,s.out];show _+(2+1)=_;omega
      obtain⟨g',c',e'⟩:=HO7.some_of (by rw[l];omega);exact⟨g',c',by rw[e',l]⟩
     go_wp2;go_roundw
     case rel=>exact⟨(j+1)+1,zk,by go_num,HV7.out,HO7.out,HB7.out,HC7.out⟩
     case measure=>simp[intOf];omega
  ·obtain rfl:k=n:=zk;have ht:ts.take k=ts:=ny (by have:=Hn.out;omega);rw[ht] at ho X;have sz:=hc.size;have Y:=Yw wr (by rw[X];omega) (ho.view (hi:=wr.heap.size) (by rw[X];omega) (fun g W=>(ho.lt g W).2));have HC:Hid _:=hc;have aD: ¬((k:Int)<(k:Int)):=zk;go_wp2_with fail;refine Y.mono ?_;rintro e A ⟨v,rfl,Z,h2⟩;have U:Hid (zu A w.heap.size 5 v (qk (zD 2 (k:Int) q++zP ts))):=Z.base (fun g W=>by have:=(Z.lt g W).1;omega)
   have T:Hid _:=HC.trans h2;go_wp2;go_ret;exact⟨_,rfl,U,T⟩
def Told (w w':World) (e:Ending) (bs:List (List Int)):Prop:= ∃g c,e= .returned (zg g (64*bs.length) c)∧zu w' w.heap.size 5 (zg g (64*bs.length) c) bs.flatten∧zr 0 0 w w'
theorem NK (w:World)(q:Int)(c b:Option Addr)(pc a:Nat):
  Calls Tryz.prog 46 #[.agg #[za q,zj c 0 pc,zj b 0 a]] w fun e w'=>Told w w' e (BL q [] []):=by
 rw[bj];have d:zr 0 0 w (w.alloc (zi #[za q,zj c 0 pc,zj b 0 a] 35)):=zr.al w;obtain⟨⟨i,j,k⟩,_⟩:=tri (zt w (zi #[za q,zj c 0 pc,zj b 0 a] 35));go_enter Tryz.func46,Tryz.ntmps46;go_upto_region 7 with fail;generalize w.alloc (zi #[za q,zj c 0 pc,zj b 0 a] 35)=f at*;have g:Hid (zr 0 0 w (f.alloc (zi #[] 5))):=d.alloc _;have h:Hid _:=zu.bnil f w.heap.size d.size;clear d i j k;go_wp2;go_ret;exact⟨_,_,rfl,h,g⟩
theorem gO (w:World){hv:Value}{hs:List Wr}(b a cap:Nat)(l:OkT q hs rs)(h0:0<rs.length)(hn:hs.length+rs.length≤128)(hb:b<w.heap.size)(aj:rs.length≤cap)
  (h1:qW w lo hi hv hs) (h2: ∀i,i<rs.length→w.cell? ⟨b,a+i,none⟩=some (za (rs.getD i 0)))
  (V: ∀w' X,zr 0 0 w w'→zC w' 0 w.heap.size .i64 X (rs.drop 26)→Calls Tryz.prog 46 #[.agg #[za q,hv,X]] w' fun e C=>Told w' C e (BL q hs (rs.drop 26))):
  Calls Tryz.prog 46 #[.agg #[za q,hv,zj (some ⟨b,a,none⟩) rs.length cap]] w fun e w'=>Told w w' e (BL q hs rs):=by
 obtain⟨n,d,rfl⟩:=h1.slice;have C0:zr 0 0 w (w.alloc (zi #[za q,zj n hs.length d,zj (some ⟨b,a,none⟩) rs.length cap] 35)):=zr.al w;have B0:=zt w (zi #[za q,zj n hs.length d,zj (some ⟨b,a,none⟩) rs.length cap] 35);obtain⟨⟨k0,k1,k2⟩,_⟩:=tri B0;have ap:(0:Int)<(rs.length:Int):=zk;obtain⟨k,hk⟩: ∃k,k=min rs.length 26:=⟨_,rfl⟩;have S:(if(26:Int)<(rs.length:Int) then(26:Int) else(rs.length:Int))=(k:Int):=by rw[hk];split<;>omega
 have f:Hid (rs.take 26=rs.take k∧rs.drop 26=rs.drop k∧(rs.take k).length=k):=by
  rcases Nat.le_total rs.length 26 with h|h
  ·have:k=rs.length:=zk;refine⟨?_,?_,?_⟩
   ·rw[this,ny h,nV]
   ·rw[this,pp h,List.drop_length]
   ·rw[mW];omega
  ·have:k=26:=zk;rw[this];exact⟨rfl,rfl,by rw[mW];omega⟩
 have ak:k≤26:=zk;have an:1≤k:=zk;have ao:k≤rs.length:=zk;have u:Hid (BL q hs rs=Q4 q (rs.take k)::BL q hs (rs.drop k)):=by have:=bn q hs h0;rw[f.out.1,f.out.2.1] at this;exact this
 have P:Hid (∀W,zr 0 0 w W→Calls Tryz.prog 94 #[.agg #[za q,zj (some ⟨b,a,none⟩) k cap]] W fun e w'=> ∃v,e= .returned v∧zu w' W.heap.size 5 v (Q4 q (rs.take k))∧zr 0 0 W w'):=fun W hW=>by
  have:=Jq W q (rs.take k) b a cap l.q0 l.q1 (by rw[f.out.2.2];omega) (by rw[f.out.2.2];omega) (l.rev.take k) (fun i hi=>by
   rw[f.out.2.2] at hi;have e:(rs.take k).getD i 0=rs.getD i 0:=by simp[hi]
   rw[e];exact hW.cell (h2 i zk))
  rw[f.out.2.2] at this;unfold Q4;rw[f.out.2.2];exact this
 have o:Hid ((Q4 q (rs.take k)).length=64):=iW l.q0 l.q1 (by rw[f.out.2.2];omega) (fun x hx=>l.rev.bound nlR x (ot hx));obtain⟨F,ai⟩: ∃F:Option Addr,(if cap=k then some (⟨b,a,none⟩:Addr) else some ⟨b,a+k,none⟩)=F:=⟨_,rfl⟩;have ah:Hid (∀W,zr 0 0 w W→zC W 0 w.heap.size .i64 (zj F (rs.length-k) (cap-k)) (rs.drop k)):=fun W hW=>by
  rw[←ai];split
  ·have e:rs.drop k= []:=pp zk;rw[e];exact⟨_,cap-k,by rw[show rs.length-k=0 by omega];rfl,zn,⟨zn,fun h=>by cases h⟩,Or.inl rfl⟩
  ·refine⟨_,cap-k,by rw[m8],by rw[m8];omega,⟨by rw[m8];omega,fun h=>by cases h⟩,Or.inr ⟨b,a+k,rfl,mX _,hb,fun i hi=>?_⟩⟩;rw[m8] at hi;rw[pm,hW.cell (h2 (k+i) zk)];simp
 have n1: ¬cap<k:=zk;have n2: ¬rs.length<k:=zk;obtain⟨i1,i2⟩:=Ea 128 (q:=q) (hs:=hs) (rs:=rs.drop k) (by rw[m8];omega) (l.dropR k);have z:Hid _:=Jh i1;have am:(BL q hs (rs.drop k)).length≤256:=by rw[m8] at i2;omega
 have O:Hid (∀w' X,zr 0 0 w w'→zC w' 0 w.heap.size .i64 X (rs.drop k)→Calls Tryz.prog 46 #[.agg #[za q,zj n hs.length d,X]] w' fun e C=>Told w' C e (BL q hs (rs.drop k))):=by rw[←f.out.2.1];exact V
 have t:Hid _:=B0;have y:Hid _:=C0;have s0:(w.alloc (zi #[za q,zj n hs.length d,zj (some ⟨b,a,none⟩) rs.length cap] 35)).heap.size=w.heap.size+1:=zn;clear V h1 h2 i1 i2 B0 C0 l hk;go_enter Tryz.func46,Tryz.ntmps46;go_upto_region 4 with fail
 try simp only[S]
 generalize w.alloc (zi #[za q,zj n hs.length d,zj (some ⟨b,a,none⟩) rs.length cap] 35)=w1 at*;clear k0 k1 k2 S;go_cut [5] (fun s wx=> ∃g c,s=zg g 64 c∧zu wx w.heap.size 5 s (Q4 q (rs.take k))∧zr 0 0 w1 wx)
 case first=>
  have HS:Hid ((fun w':World=>w'.heap[w.heap.size]?=some (zi #[za q,zj n hs.length d,zj (some ⟨b,a,none⟩) rs.length cap] 35)) w1.drew):=t.out;refine hRg (fun w':World=>w'.heap[w.heap.size]?=some (zi #[za q,zj n hs.length d,zj (some ⟨b,a,none⟩) rs.length cap] 35)) ?_;refine hT2 0 (zh w.heap.size) rfl ?_;go_simp;refine hTk 1 (za q) rfl (fun w' j=>by obtain⟨⟨q0,q1,q2⟩,_⟩:=tri j;go_simp) HS.out ?_;go_simp
  refine hT2 2 (.pointer (some ⟨w.heap.size,2,none⟩)) rfl ?_;go_simp;refine hTk 3 (zj (some ⟨b,a,none⟩) rs.length cap) rfl (fun w' j=>by obtain⟨⟨q0,q1,q2⟩,_⟩:=tri j;go_simp) HS.out ?_;go_simp;refine hT2 4 (za k) rfl ?_;go_simp;refine hT2 5 (zj (some ⟨b,a,none⟩) k cap) rfl ?_;go_simp;refine hT2 6 (.agg #[za q,zj (some ⟨b,a,none⟩) k cap]) rfl ?_;go_simp;have aa:Hid _:=y.drew;have r:Hid _:=zr.drew (zr.refl 0 0 w1)
  generalize w1.drew=w2 at*;refine hOn 7 rfl ?_;refine zv 94 #[.agg #[za q,zj (some ⟨b,a,none⟩) k cap]] zq (P.out w2 aa.out) ?_;rintro e w3 ⟨v3,rfl,Z,h3⟩;have s2:=r.size;have Q:Hid ((fun w':World=>w'.heap[w.heap.size]?=some (zi #[za q,zj n hs.length d,zj (some ⟨b,a,none⟩) rs.length cap] 35)) w3):=h3.bt HS;have K:Hid (zu w3 w.heap.size 5 v3 (Q4 q (rs.take k))):=Z.base (fun g B=>by have:=(Z.lt g B).1;omega)
  obtain⟨g3,c3,rfl⟩:=Z.some_of (by rw[o.out];omega);rw[o.out] at K⊢;have ab:Hid _:=r.trans h3;refine⟨_,rfl,Q,?_⟩;clear Z h3;go_simp;refine hOn 8 rfl ?_;go_simp;refine⟨Q,?_⟩;refine hDn ?_;go_wp2;go_meet;exact⟨_,_,rfl,K,ab⟩
 case rest=>
  obtain⟨g,G,rfl,ho,Y⟩:=hcut;generalize wc=D at*;have I:Hid _:=y.trans Y;have H:Hid _:=Y.bt t;have L:Hid (zu D w.heap.size 5 (zg g 64 G) (Q4 q (rs.take k))):=ho;have s4:=Y.size;clear ho Y t y;go_wp2;have HS:Hid ((fun w':World=>w'.heap[w.heap.size]?=some (zi #[za q,zj n hs.length d,zj (some ⟨b,a,none⟩) rs.length cap] 35)) D.drew):=H.out;refine hRg (fun w':World=>w'.heap[w.heap.size]?=some (zi #[za q,zj n hs.length d,zj (some ⟨b,a,none⟩) rs.length cap] 35)) ?_
  refine hT2 0 (zg g 64 G) rfl ?_;go_simp;refine hT2 1 (zh w.heap.size) rfl ?_;go_simp;refine hTk 2 (za q) rfl (fun w' j=>by obtain⟨⟨q0,q1,q2⟩,_⟩:=tri j;go_simp) HS.out ?_;go_simp;refine hT2 3 (.pointer (some ⟨w.heap.size,1,none⟩)) rfl ?_;go_simp;refine hTk 4 (zj n hs.length d) rfl (fun w' j=>by obtain⟨⟨q0,q1,q2⟩,_⟩:=tri j;go_simp) HS.out ?_;go_simp;refine hT2 5 (.pointer (some ⟨w.heap.size,2,none⟩)) rfl ?_
  go_simp;refine hTk 6 (zj (some ⟨b,a,none⟩) rs.length cap) rfl (fun w' j=>by obtain⟨⟨q0,q1,q2⟩,_⟩:=tri j;go_simp) HS.out ?_;go_simp;refine hT2 7 (za k) rfl ?_;go_simp;refine hT2 8 (zj F (rs.length-k) (cap-k)) rfl ?_;go_simp;refine hT2 9 (.agg #[za q,zj n hs.length d,zj F (rs.length-k) (cap-k)]) rfl ?_;go_simp;have p:Hid _:=I.drew;have M:Hid (zu D.drew w.heap.size 5 (zg g 64 G) (Q4 q (rs.take k))):=L.chg (zr.drew (zr.refl 0 0 D)) (by intro g _;omega)
  have s5:w.heap.size<D.drew.heap.size:=by show _<D.heap.size;omega
  generalize D.drew=w5 at*;clear I L H;refine hOn 10 rfl ?_;refine zv 46 #[.agg #[za q,zj n hs.length d,zj F (rs.length-k) (cap-k)]] zq (O.out w5 _ p.out (ah.out w5 p.out)) ?_;rintro e E ⟨g6,c6,rfl,o6,T⟩;have A:Hid ((fun w':World=>w'.heap[w.heap.size]?=some (zi #[za q,zj n hs.length d,zj (some ⟨b,a,none⟩) rs.length cap] 35)) E):=T.bt HS;have J:Hid _:=p.trans T;have s6:=T.size;have af:Hid (zC E w5.heap.size E.heap.size .u8 (zg g6 (64*(BL q hs (rs.drop k)).length) c6) (BL q hs (rs.drop k)).flatten):=o6.view (by rw[z.out];omega) (fun g B=>(o6.lt g B).2)
  have N:Hid (zu E w.heap.size 5 (zg g 64 G) (Q4 q (rs.take k))):=M.chg T (by intro g _;omega);have ag:Hid (zC E w.heap.size E.heap.size .u8 (zg g 64 G) (Q4 q (rs.take k))):=N.view (by rw[o.out];omega) (fun g B=>(N.lt g B).2);refine⟨_,rfl,A,?_⟩;clear o6 T M HS p;go_simp;have hN:=qw (xs:=Q4 q (rs.take k)) (ys:=(BL q hs (rs.drop k)).flatten) E (by rw[o.out];omega) (by rw[z.out];omega) ag af;refine hOn 11 rfl ?_
  refine zv 48 #[zg g 64 G,zg g6 (64*(BL q hs (rs.drop k)).length) c6] zq hN ?_;rintro e w7 ⟨v7,rfl,U,h7⟩;have R:Hid _:=h7.bt A;have ac:Hid _:=J.trans h7;have m:(Q4 q (rs.take k)++(BL q hs (rs.drop k)).flatten).length=64*(BL q hs rs).length:=by rw[u.out,mL,o.out,z.out,m7];omega
  obtain⟨g7,c7,rfl⟩:=U.some_of (by rw[m,u.out,m7];omega);rw[m] at U⊢;have ae:Hid (zu w7 w.heap.size 5 (zg g7 (64*(BL q hs rs).length) c7) (BL q hs rs).flatten):=by
   have e:(BL q hs rs).flatten=Q4 q (rs.take k)++(BL q hs (rs.drop k)).flatten:=by rw[u.out,oC]
   show zu _ _ _ _ _;rw[e];exact U.base (fun g B=>by have:=(U.lt g B).1;omega)
  refine⟨_,rfl,R,?_⟩;clear U h7 hN A J m;go_simp;refine hOn 12 rfl ?_;go_simp;refine⟨R,?_⟩;refine hDn ?_;go_wp2;go_ret;exact⟨_,_,rfl,ae,ac⟩
def jx (xs:List Int) (esc:Bool):List Int:=if xs.length=64∧Zp xs esc=true then jA xs esc else []
theorem XT (h:xs.length=64)(a:Bool):(jA xs a).length=64:=by
 unfold jA;split
 ·simp[mg,h]
 ·exact h
theorem zC.drop4 {b off cap:Nat}(h:zC w lo hi .u8 (zj (some ⟨b,off,none⟩) 64 cap) xs)(c:xs.length=64):zC w lo hi .u8 (zj (some ⟨b,off+4,none⟩) 60 (cap-4)) (xs.drop 4):=by
 obtain⟨_,_,e,_,⟨j,_⟩,h⟩:=h;rw[c] at e
 cases e
 have a:(xs.drop 4).length=60:=by rw[m8,c]
 refine⟨_,_,by rw[a],by rw[a];omega,⟨by rw[a];omega,zn⟩,?_⟩;rcases h with h|⟨g,d,f,h1,h2,h3⟩
 ·rw[h] at c;simp at c
 ·cases f
  refine Or.inr ⟨b,off+4,rfl,h1,h2,fun i hi=>?_⟩;rw[a] at hi;have:=h3 (4+i) zk;rw[pm,this];simp
theorem Yg (w:World)(p:Bool)(E:Byt xs)(h1:zC w lo hi .u8 a xs)(aa:hi≤w.heap.size)(hl:xs.length≤1048576:=by omega):
  Calls Tryz.prog 179 #[a,.bool p] w fun e w'=> ∃v,e= .returned v∧zu w' w.heap.size 5 v (jx xs p)∧zr 0 0 w w':=by
 have k:=h1;obtain⟨X,cap,rfl,ab,_,_⟩:=h1;have d:zu (w.alloc (zi #[] 5)) w.heap.size 5 (zg w.heap.size 0 0) []:=by
  have:=nK (base:=w.heap.size) (e:=5) (size:=1) w #[] 0 nlR (by unfold maxLen;omega) rfl;simpa [zu] using this
 by_cases f:xs.length=64
 ·obtain⟨B,C,rfl⟩: ∃B C,X=some ⟨B,C,none⟩:=by
   obtain⟨_,_,e,_,_,u⟩:=k
   cases e
   rcases u with e|⟨x,o,e,_,_,_⟩
   ·rw[e] at f;simp at f
   ·exact⟨x,o,e⟩
  have O:((64:Int) !=64)=false:=zn;have S:Hid (xs.length=64):=f;rw[f] at k⊢;have W:Hid (zC w lo hi .u8 (zj (some ⟨B,C,none⟩) 64 cap) xs):=k;have V:Hid (Byt xs):=E
  cases p
  ·have t:=QN w E k;have M:beg xs=decide (xs.take 4=mg):=by unfold beg;rw[mR zk];rfl
   rw[M] at t;by_cases z:xs.take 4=mg
   ·have m:Hid (jx xs false= []):=by
     show _=_;unfold jx Zp;rw[mR z];simp
    rw[mR z] at t;clear M z k f d E;go_enter Tryz.func179,Tryz.ntmps179;go_wp2_with fail;refine t.mono ?_;rintro e c ⟨rfl,b⟩;have j:Hid (zr 0 0 w c):=b;have hs:=b.size;have n:Hid (zu (c.alloc (zi #[] 5)) w.heap.size 5 (zg c.heap.size 0 0) []):=by
     show zu _ _ _ _ _;have:=nK (base:=w.heap.size) (e:=5) (size:=1) c #[] 0 hs (by unfold maxLen;omega) rfl;simpa [zu] using this
    have l:Hid (zr 0 0 w (c.alloc (zi #[] 5))):=b.alloc _;clear t b;go_wp2;go_ret;exact⟨_,rfl,by rw[m.out];exact n,l⟩
   ·have m:Hid (jx xs false=xs):=by
     show _=_;unfold jx Zp jA;rw[mY z];simp[f]
    rw[mY z] at t;clear M z k f d E;go_enter Tryz.func179,Tryz.ntmps179;go_wp2_with fail;refine t.mono ?_;rintro e c ⟨rfl,b⟩;have j:Hid (zr 0 0 w c):=b;have hs:=b.size;have F:=Zr c hl (W.chg b zk);clear t b;go_wp2_with fail;refine F.mono ?_;rintro e U ⟨v2,rfl,Q,H⟩;have n:Hid (zu U w.heap.size 5 v2 xs):=Q.base (fun g y=>by have:=(Q.lt g y).1;omega);have l:Hid (zr 0 0 w U):=j.trans H;clear F Q H;go_wp2
    go_ret;exact⟨_,rfl,by rw[m.out];exact n,l⟩
  ·have Y:4≤cap:=by
    obtain⟨_,_,e,_,⟨i,_⟩,_⟩:=k;rw[f] at e i
    cases e;omega
   have L:Hid (zC w lo hi .u8 (zj (some ⟨B,C,none⟩) 4 cap) (xs.take 4)):=k.take 4;have D:Hid (zC w lo hi .u8 (zj (some ⟨B,C+4,none⟩) 60 (cap-4)) (xs.drop 4)):=k.drop4 f;have Z: ¬cap=4:=by
    obtain⟨_,_,e,_,⟨i,_⟩,_⟩:=k;rw[f] at e i
    cases e;omega
   have G:Byt (List.replicate 4 (0:Int)):=by intro x f;rw[rU f];omega
   have I:Hid (Byt (List.replicate 4 (0:Int))):=G;clear k f d E G;go_enter Tryz.func179,Tryz.ntmps179;go_upto_region 7 with fail;go_cut [20] (fun s20 wx=>s20= .bool (!decide (xs.take 4= [0,0,0,0]))∧zr 0 0 w wx)
   case first=>
    go_region_with (first
     |(go_at_call 63;refine(qS _ 4).mono ?_;rintro e w' ⟨g,rfl,s,i⟩)
     |(go_at_call 52;refine(j5 (xs:=xs.take 4) (ys:=List.replicate 4 0) _ (V.out.take 4) I.out (L.out.chg ((zr.drew (zr.refl 0 0 w)).trans i) zk) (s.view (hi:=w'.heap.size) zn (fun g y=>(s.lt g y).2))).mono ?_;rintro e R ⟨rfl,rfl⟩))
    all_goals (try go_wp2)
    all_goals (go_meet;exact⟨rfl,(zr.drew (zr.refl 0 0 w)).trans i⟩)
   case rest=>
    obtain⟨rfl,b⟩:=hcut;generalize wc=c at*;have j:Hid (zr 0 0 w c):=b;have P:=b.size;clear b;by_cases A:xs.take 4= [0,0,0,0]
    ·have m:Hid (jx xs true=mg++xs.drop 4):=by
      show _=_;have:=S.out;unfold jx Zp jA;simp[this,A]
     rw[mR A];clear A;go_upto_region 9 with fail;go_cut [4] (fun s4 wx=>zu wx w.heap.size 5 s4 (mg++xs.drop 4)∧zr 0 0 w wx)
     case first=>
      have K:Hid (zC c lo hi .u8 (zj (some ⟨B,C+4,none⟩) 60 (cap-4)) (xs.drop 4)):=D.chg j zk;have r:(xs.drop 4).length=60:=by rw[m8,S.out]
      have q:Hid ((xs.drop 4).length=60):=r;clear r;go_region_with (first
       |(go_at_call 137;refine(Q0 _).mono ?_;rintro e w' ⟨rfl,s,i⟩)
       |(go_at_call 48;refine(j4 (xs:=mg) (ys:=xs.drop 4) (lo':=lo) _ (by simp[mg]) (by rw[q.out];omega) (s.view (hi:=w'.heap.size) (by simp[mg]) (fun g y=>(s.lt g y).2)) ((K.out.chg ((zr.drew (zr.refl 0 0 c)).trans i) zk).mono nlR (by have N:c.drew.heap.size=c.heap.size:=rfl;have:=i.size;omega)) (by rw[q.out];omega)).mono ?_;rintro e R ⟨vj,rfl,T,hj⟩))
      all_goals (try go_wp2)
      all_goals (go_meet;exact⟨T.base (fun g y=>by have N:c.drew.heap.size=c.heap.size:=rfl;have:=(T.lt g y).1;have:=i.size;omega),(j.out.trans ((zr.drew (zr.refl 0 0 c)).trans i)).trans hj⟩)
     case rest=>
      obtain⟨s,i⟩:=hcut;have n:Hid (zu wc w.heap.size 5 u4 (mg++xs.drop 4)):=s;have J:Hid (zr 0 0 w wc):=i;clear s i;go_wp2;go_ret;exact⟨_,rfl,by rw[m.out];exact n,J⟩
    ·have m:Hid (jx xs true= []):=by
      show _=_;unfold jx Zp;simp[A]
     rw[mY A];have n:Hid (zu (c.alloc (zi #[] 5)) w.heap.size 5 (zg c.heap.size 0 0) []):=by
      show zu _ _ _ _ _;have:=nK (base:=w.heap.size) (e:=5) (size:=1) c #[] 0 P (by unfold maxLen;omega) rfl;simpa [zu] using this
     have l:Hid (zr 0 0 w (c.alloc (zi #[] 5))):=j.alloc _;clear A;go_wp2;go_ret;exact⟨_,rfl,by rw[m.out];exact n,l⟩
 ·have m:Hid (jx xs p= []):=by show _=_;unfold jx;rw[mN (fun h=>f h.1)]
  have O:((xs.length:Int) !=64)=true:=by simp;omega
  have n:Hid (zu (w.alloc (zi #[] 5)) w.heap.size 5 (zg w.heap.size 0 0) []):=d;have J:Hid (zr 0 0 w (w.alloc (zi #[] 5))):=zr.al w;clear k f d;go_enter Tryz.func179,Tryz.ntmps179;go_wp2;go_ret;exact⟨_,rfl,by rw[m.out];exact n,J⟩
def bF (xs:List Int):List Int:=if xs.length=64 then Zi xs else []
def eY (xs:List Int):Bool:=decide (xs.length=64)
def bG (xs:List Int):Bool:=decide (xs.length=64)&&decide (xs.take 4=mg)
theorem JQ {s:Nat}{b c:Value}{t:TypeId}(h:w.heap[s]?=some (zi #[a,b,c] t)):
  (w.cell? (zd s)=some a∧w.cell? ⟨s,1,none⟩=some b∧w.cell? ⟨s,2,none⟩=some c)∧w.frozen? (zd s)=false∧w.frozen? ⟨s,1,none⟩=false∧w.frozen? ⟨s,2,none⟩=false:=by
 simp[World.cell?,World.frozen?,h]
theorem Kj (w:World)(W:Byt xs)(h1:zC w lo hi .u8 a xs)(ae:hi≤w.heap.size)(hl:xs.length≤1048576:=by omega):
  Calls Tryz.prog 95 #[a] w fun e w'=> ∃v,e= .returned (.agg #[.bool (eY xs),v,.bool (bG xs)])∧zu w' w.heap.size 5 v (bF xs)∧zr 0 0 w w':=by
 have C0:zr 0 0 w (w.alloc (zi #[.bool false,zc,.bool false] 171)):=zr.al w;have i:Hid ((w.alloc (zi #[.bool false,zc,.bool false] 171)).heap[w.heap.size]?=some (zi #[.bool false,zc,.bool false] 171)):=zt _ _;have HC0:Hid (zr 0 0 w (w.alloc (zi #[.bool false,zc,.bool false] 171))):=C0;have q:=h1.chg C0 zk;obtain⟨ao,cap,rfl,af,_,_⟩:=h1;have P: ∀(w7:World) (g e:Bool) (k:Value) (J:List Int),w7.heap[w.heap.size]?=some (zi #[.bool false,zc,.bool false] 171)→zr 0 0 w w7→zu w7 (w.heap.size+1) 5 k J→
   zr 0 0 w (((w7.setCell (zd w.heap.size) (.bool g)).setCell ⟨w.heap.size,1,none⟩ k).setCell ⟨w.heap.size,2,none⟩ (.bool e))∧zu (((w7.setCell (zd w.heap.size) (.bool g)).setCell ⟨w.heap.size,1,none⟩ k).setCell ⟨w.heap.size,2,none⟩ (.bool e)) w.heap.size 5 k J:=by
  intro w7 g e k J X n I;have l:k.ownBlock≠some w.heap.size:=fun h=>by have:=(I.lt _ h).1;omega
  refine⟨((n.setCell (p:=(zd w.heap.size)) (Or.inr nlR) _).setCell (p:=⟨w.heap.size,1,none⟩) (Or.inr nlR) _).setCell (p:=⟨w.heap.size,2,none⟩) (Or.inr nlR) _,?_⟩;have h2:=I.base (base':=w.heap.size) (fun g' ab=>by have:=(I.lt g' ab).1;omega);exact((h2.set (p:=(zd w.heap.size)) l _).set (p:=⟨w.heap.size,1,none⟩) l _).set (p:=⟨w.heap.size,2,none⟩) l _
 have s:Hid (∀(w7:World) (g e:Bool) (k:Value) (J:List Int),w7.heap[w.heap.size]?=some (zi #[.bool false,zc,.bool false] 171)→zr 0 0 w w7→zu w7 (w.heap.size+1) 5 k J→
   zr 0 0 w (((w7.setCell (zd w.heap.size) (.bool g)).setCell ⟨w.heap.size,1,none⟩ k).setCell ⟨w.heap.size,2,none⟩ (.bool e))∧zu (((w7.setCell (zd w.heap.size) (.bool g)).setCell ⟨w.heap.size,1,none⟩ k).setCell ⟨w.heap.size,2,none⟩ (.bool e)) w.heap.size 5 k J):=P
 have s0:(w.alloc (zi #[.bool false,zc,.bool false] 171)).heap.size=w.heap.size+1:=zn;clear P C0;by_cases c:xs.length=64
 ·obtain⟨Z,xo,rfl⟩: ∃Z xo,ao=some ⟨Z,xo,none⟩:=by
   obtain⟨_,_,e,_,_,D⟩:=q
   cases e
   rcases D with e|⟨x,o,e,_,_,_⟩
   ·rw[e] at c;simp at c
   ·exact⟨x,o,e⟩
  have l:((64:Int) !=64)=false:=zn;have Hx:Hid (xs.length=64):=c;have m:Hid (bF xs=Zi xs∧eY xs=true∧bG xs=decide (xs.take 4=mg)):=by
   refine⟨by unfold bF;rw[mM c],by unfold eY;rw[mR c],by unfold bG;rw[mR c];rfl⟩
  have ad: ¬cap=4:=by
   obtain⟨_,_,e,_,⟨n,_⟩,_⟩:=q;rw[c] at e n
   cases e;omega
  have ac:4≤cap:=by
   obtain⟨_,_,e,_,⟨n,_⟩,_⟩:=q;rw[c] at e n
   cases e;omega
  rw[c] at q⊢;have HV:Hid (zC (w.alloc (zi #[.bool false,zc,.bool false] 171)) lo hi .u8 (zj (some ⟨Z,xo,none⟩) 64 cap) xs):=q;have HB:Hid (Byt xs):=W;have z:=QN _ W q;have X:beg xs=decide (xs.take 4=mg):=by unfold beg;rw[mR zk];rfl
  rw[X] at z;by_cases u:xs.take 4=mg
  ·have f:Hid (Zi xs=List.replicate 4 0++xs.drop 4∧decide (xs.take 4=mg)=true):=⟨by unfold Zi;rw[mM u];rfl,mR u⟩;rw[mR u] at z;clear X u q c W;go_enter Tryz.func95,Tryz.ntmps95;go_wp2_with fail;generalize w.alloc (zi #[.bool false,zc,.bool false] 171)=wq at*;refine z.mono ?_;rintro e d ⟨rfl,b⟩;have s1:=b.size;have M:Hid (zC d lo hi .u8 (zj (some ⟨Z,xo+4,none⟩) 60 (cap-4)) (xs.drop 4)):=(HV.drop4 Hx).chg b zk
   have j:Hid (d.heap[w.heap.size]?=some (zi #[.bool false,zc,.bool false] 171)):=(b.bk w.heap.size (zE i)).trans i;have y:Hid (zr 0 0 w d):=HC0.trans b;have t:Hid ((xs.drop 4).length=60):=by show _=_;rw[m8,Hx.out]
   clear z b;go_upto_region 4 with fail;go_cut [12] (fun s12 wx=> ∃(w7:World),wx=((w7.setCell (zd w.heap.size) (.bool true)).setCell ⟨w.heap.size,1,none⟩ s12).setCell ⟨w.heap.size,2,none⟩ (.bool true)∧w7.heap[w.heap.size]?=some (zi #[.bool false,zc,.bool false] 171)∧zr 0 0 w w7∧zu w7 (w.heap.size+1) 5 s12 (List.replicate 4 0++xs.drop 4))
   case first=>
    have ag:d.drew.heap.size=d.heap.size:=rfl;go_region_with (first
     |(go_at_call 63;refine(qS _ 4).mono ?_;rintro e w' ⟨g,rfl,I,n⟩)
     |(go_at_call 48;refine(j4 (xs:=List.replicate 4 0) (ys:=xs.drop 4) (lo':=lo) _ zn (by rw[t.out];omega) (I.view (hi:=w'.heap.size) zn (fun g S=>(I.lt g S).2)) ((M.out.chg ((zr.drew (zr.refl 0 0 d)).trans n) zk).mono nlR (by have:=n.size;omega)) (by rw[t.out];omega)).mono ?_;rintro e r ⟨vj,rfl,oj,hj⟩
       have K:Hid (zr 0 0 d r):=((zr.drew (zr.refl 0 0 d)).trans n).trans hj
       have L:Hid (r.heap[w.heap.size]?=some (zi #[.bool false,zc,.bool false] 171)):=(K.bk w.heap.size (zE j)).trans j
       have aa:Hid (zu r (w.heap.size+1) 5 vj (List.replicate 4 0++xs.drop 4)):=oj.base (fun g S=>by have:=(oj.lt g S).1;have:=n.size;omega)
       obtain⟨⟨r0,r1,r2⟩,F,G,H⟩:=JQ L
       obtain⟨T,U,V,rfl⟩:=zF oj))
    all_goals (try go_wp2)
    all_goals (go_meet;exact⟨r,rfl,L.out,y.out.trans K.out,aa.out⟩)
   case rest=>
    obtain⟨w7,rfl,B,R,E⟩:=hcut;obtain⟨N,O⟩:=s.out w7 true true u12 _ B R E;obtain⟨⟨r0,r1,r2⟩,F,G,H⟩:=JQ B;obtain⟨T,U,V,rfl⟩:=zF E;have F1:Hid _:=N;have F2:Hid _:=O;clear B R E N O;go_wp2;rw[m.out.1,m.out.2.1,m.out.2.2,f.out.1,f.out.2];exact mT (v:= .agg #[.bool true,zj T U V,.bool true]) (by simp[results,Tryz.results95,go_sem,r0,r1,r2]) rfl ⟨_,rfl,F2.out,F1.out⟩
  ·have f:Hid (Zi xs=xs∧decide (xs.take 4=mg)=false):=⟨by unfold Zi;rw[mN u],mY u⟩;rw[mY u] at z;clear X u q c W;go_enter Tryz.func95,Tryz.ntmps95;go_wp2_with fail;generalize w.alloc (zi #[.bool false,zc,.bool false] 171)=wq at*;refine z.mono ?_;rintro e d ⟨rfl,b⟩;have s1:=b.size;have Q:=Zr d hl (HV.chg b zk);have j:Hid (d.heap[w.heap.size]?=some (zi #[.bool false,zc,.bool false] 171)):=(b.bk w.heap.size (zE i)).trans i
   have y:Hid (zr 0 0 w d):=HC0.trans b;clear z b;go_wp2_with fail;refine Q.mono ?_;rintro e w2 ⟨v2,rfl,Y,C⟩;have A:=(C.bk w.heap.size (zE j)).trans j;obtain⟨⟨r0,r1,r2⟩,F,G,H⟩:=JQ A;obtain⟨N,O⟩:=s.out w2 true false v2 xs A (y.trans C) (Y.base (fun g S=>by have:=(Y.lt g S).1;omega));obtain⟨T,U,V,rfl⟩:=zF Y;have F1:Hid _:=N;have F2:Hid _:=O;clear Q Y C A N O;go_wp2;rw[m.out.1,m.out.2.1,m.out.2.2,f.out.1,f.out.2]
   exact mT (v:= .agg #[.bool true,zj T U V,.bool false]) (by simp[results,Tryz.results95,go_sem,r0,r1,r2]) rfl ⟨_,rfl,F2.out,F1.out⟩
 ·have m:Hid (bF xs= []∧eY xs=false∧bG xs=false):=by
   refine⟨by unfold bF;rw[mN c],by unfold eY;rw[mY c],by unfold bG;rw[mY c];rfl⟩
  have l:((xs.length:Int) !=64)=true:=by simp;omega
  obtain⟨⟨r0,r1,r2⟩,F,G,H⟩:=JQ i;clear q c;go_enter Tryz.func95,Tryz.ntmps95;go_wp2;rw[m.out.1,m.out.2.1,m.out.2.2];exact mT (v:= .agg #[.bool false,zc,.bool false]) (by simp[results,Tryz.results95,go_sem,r0,r1,r2]) rfl ⟨_,rfl,zu.nothing _ _ _,HC0.out⟩
abbrev oe:= @wp_buildSlice
def Z0 (hs:List Wr):List Int:=(hs.map fun h=>Zi h.2).flatten
theorem Yq {hs:List Wr}(h: ∀x∈hs,x.2.length=64):(Z0 hs).length=64*hs.length:=by
 unfold Z0;rw[Jh (fun b a=>by obtain⟨x,c,rfl⟩:=m9.1 a;exact jX (h x c)),mO]
theorem Ep {hs:List Wr}(h:k<hs.length):Z0 (hs.take (k+1))=Z0 (hs.take k)++Zi (hs.getD k (0,[])).2:=by
 unfold Z0;rw[oy h,m6,rP];simp[h]
theorem EO {hs:List Wr}(h:k<hs.length):(hs.take (k+1)).map z9=(hs.take k).map z9++ [z9 (hs.getD k (0,[]))]:=by
 rw[oy h,m6];simp[h]
theorem NX (A:Array Value)(c:A.size=2)(x:Int)(e:Bool):Instr.fill (fun i=>some (i*2,2)) A [(0,.agg #[za x,.bool e])]=some #[za x,.bool e]:=by
 obtain⟨l⟩:=A
 match l,c with
 | [a,b],_=>simp[Instr.fill,Value.cells]
theorem eH (w:World){hs:List Wr}(ao:Option Addr)(ac b off cap:Nat)(bm:OkT q hs [])(h0:0<hs.length)(hn:hs.length≤128)(hb:b<w.heap.size)(bE:hi≤w.heap.size)(bL:hs.length≤cap)
  (h1: ∀i,i<hs.length→ ∃dv,w.cell? ⟨b,off+i*2,none⟩=some (za (hs.getD i (0,[])).1)∧w.cell? ⟨b,off+i*2+1,none⟩=some dv∧zC w lo hi .u8 dv (hs.getD i (0,[])).2)
  (bp: ∀w' hv,zr 0 0 w w'→qW w' 0 w.heap.size hv (hs.drop 17)→Calls Tryz.prog 46 #[.agg #[za q,hv,zc]] w' fun e aH=>Told w' aH e (BL q (hs.drop 17) [])):
  Calls Tryz.prog 46 #[.agg #[za q,zj (some ⟨b,off,none⟩) hs.length cap,zj ao 0 ac]] w fun e w'=>Told w w' e (BL q hs []):=by
 have C0:zr 0 0 w (w.alloc (zi #[za q,zj (some ⟨b,off,none⟩) hs.length cap,zj ao 0 ac] 35)):=zr.al w;have B0:=zt w (zi #[za q,zj (some ⟨b,off,none⟩) hs.length cap,zj ao 0 ac] 35);obtain⟨⟨k0,k1,k2⟩,_⟩:=tri B0;have bI:((hs.length:Int)==0)=false:=by rw[oX];omega
 obtain⟨n,hk⟩: ∃n,n=min hs.length 17:=⟨_,rfl⟩;have ba:(if(17:Int)<(hs.length:Int) then(17:Int) else(hs.length:Int))=(n:Int):=by rw[hk];split<;>omega
 have t:Hid (hs.take 17=hs.take n∧hs.drop 17=hs.drop n∧(hs.take n).length=n):=by
  rcases Nat.le_total hs.length 17 with h|h
  ·have:n=hs.length:=zk;refine⟨?_,?_,?_⟩
   ·rw[this,ny h,nV]
   ·rw[this,pp h,List.drop_length]
   ·rw[mW];omega
  ·have:n=17:=zk;rw[this];exact⟨rfl,rfl,by rw[mW];omega⟩
 have bP:n≤17:=zk;have bV:1≤n:=zk;have bW:n≤hs.length:=zk;have ai:Hid (BL q hs []=zW q (hs.take n)++BL q (hs.drop n) []):=by have:=ES q h0;rw[t.out.1,t.out.2.1] at this;exact this
 have m:Hid (OkT q hs []):=bm;have H1:Hid _:=h1;have a2:Hid (∀w' hv,zr 0 0 w w'→qW w' 0 w.heap.size hv (hs.drop n)→Calls Tryz.prog 46 #[.agg #[za q,hv,zc]] w' fun e aH=>Told w' aH e (BL q (hs.drop n) [])):=by rw[←t.out.2.1];exact bp
 have aJ:Hid _:=B0;have aO:Hid _:=C0;have s0:(w.alloc (zi #[za q,zj (some ⟨b,off,none⟩) hs.length cap,zj ao 0 ac] 35)).heap.size=w.heap.size+1:=zn;clear bp h1 B0 C0 bm hk;go_enter Tryz.func46,Tryz.ntmps46;go_upto_region 9 with fail;generalize w.alloc (zi #[za q,zj (some ⟨b,off,none⟩) hs.length cap,zj ao 0 ac] 35)=w1 at*
 try simp only[ba]
 clear bI ba;have D1:=zt w1 (zi #[za q,zc] 169);have s1:(w1.alloc (zi #[za q,zc] 169)).heap.size=w1.heap.size+1:=zn;have C1:zr 0 0 w1 (w1.alloc (zi #[za q,zc] 169)):=zr.al w1;have aT:Hid ((w1.alloc (zi #[za q,zc] 169)).heap[w.heap.size+1]?=some (zi #[za q,zc] 169)):=by rw[←s0];exact D1
 have aK:Hid _:=C1.bt aJ;have aP:Hid _:=aO.trans C1;clear D1 C1 aJ aO;go_upto_region 10 with fail;generalize w1.alloc (zi #[za q,zc] 169)=w2 at*;have C2:zr 0 0 w2 (w2.alloc (zi #[] 5)):=zr.al w2;have aZ:Hid (zu (w2.alloc (zi #[] 5)) (w.heap.size+2) 5 (zj (some ⟨w.heap.size+1+1,0,none⟩) 0 0) []):=by
  have h:=zu.bnil w2 (w.heap.size+2);rwa [show w2.heap.size=w.heap.size+1+1 by omega] at h
 have aU:Hid _:=C2.bt aT;have aL:Hid _:=C2.bt aK;have aQ:Hid _:=aP.trans C2;have bq:w.heap.size+2≤(w2.alloc (zi #[] 5)).heap.size:=by have:=C2.size;omega
 clear C2 aT aK aP k0 k1 k2;go_wp2;go_loopw [8,9] (fun o x wr=> ∃k:Nat,k≤n∧x=za k∧(∃g c,o=zg g (64*k) c)∧zu wr (w.heap.size+2) 5 o (Z0 (hs.take k))∧(∃va vc,je wr (w.heap.size+2) (zj va k vc) ((hs.take k).map z9)∧wr.heap[w.heap.size+1]?=some (zi #[za q,zj va k vc] 169))∧wr.heap[w.heap.size]?=some (zi #[za q,zj (some ⟨b,off,none⟩) hs.length cap,zj ao 0 ac] 35)∧zr 0 0 w wr∧w.heap.size+2≤wr.heap.size) (fun _ x _=>n-(intOf x).toNat)
 case atStart=>exact⟨0,mX _,rfl,⟨_,_,rfl⟩,aZ,⟨none,0,je.nil _ _,aU⟩,aL,aQ,bq⟩
 case round=>
  clear aZ aU aL aQ bq s1 s0;obtain⟨k,hk,rfl,⟨g,gc,rfl⟩,ho,⟨va,vc,d,hd⟩,af,hc,bX⟩:=hrel;have HO:Hid (zu wr (w.heap.size+2) 5 (zg g (64*k) gc) (Z0 (hs.take k))):=ho;have HG:Hid (je wr (w.heap.size+2) (zj va k vc) ((hs.take k).map z9)):=d;have HD:Hid _:=hd;have HB:Hid _:=af;have HC:Hid _:=hc;by_cases bU:k<n
  ·have hi':(k:Int)<(n:Int):=zk;have O:k<hs.length:=zk;obtain⟨dv,r1,r2,r3⟩:=H1.out k O;have c1:=hc.cell r1;have c2:=hc.cell r2;have v3:=r3.chg hc zk;have bT:(k:Int)<(hs.length:Int):=zk;obtain⟨⟨k0,k1,k2⟩,_⟩:=tri af;have hx:hs.getD k (0,[])=hs[k]:=by simp[O]
   have B:=m.data _ (nj O);have aa:=m.byt _ (nj O);rw[←hx] at B aa;have Q:=Kj wr aa v3 (by have:=hc.size;omega);have HE:Hid (bF (hs.getD k (0,[])).2=Zi (hs.getD k (0,[])).2∧bG (hs.getD k (0,[])).2=(z9 (hs.getD k (0,[]))).2):=⟨by unfold bF;rw[mM B],by unfold bG z9;rw[mR B];rfl⟩;have K:Hid _:=jX B;rw[HE.out.1,HE.out.2] at Q;have a4:Hid _:=Ep O;have a5:Hid _:=EO O;have a6:Hid (((hs.take k).map z9).length=k):=by show _=_;rw[mO,mW];omega
   have a7:Hid ((Z0 (hs.take k)).length=64*k):=by
    show _=_;rw[Yq (fun x hx=>m.out.data x (ot hx)),mW,ol zk]
   have bn:(hs.getD k (0,[])).1=(z9 (hs.getD k (0,[]))).1:=rfl;rw[bn] at c1;obtain⟨b4,b6,b5,rfl⟩: ∃a l c,dv=zj a l c:=by obtain⟨a,c,e,_⟩:=v3;exact⟨a,_,c,e⟩
   clear bn r1 r2 r3 v3 hx B aa ho d hd af hc HE;generalize z9 (hs.getD k (0,[]))=tg at*;generalize Zi (hs.getD k (0,[])).2=es at*;generalize eY (hs.getD k (0,[])).2=eg at*;obtain⟨x,ee⟩:=tg;simp only at c1 Q;have HX:Hid _:=c1;go_wp2_with fail;refine Q.mono ?_;rintro e y ⟨v3,rfl,R,h3⟩;obtain⟨g3,c3,rfl⟩:=R.some_of (by rw[K.out];omega);rw[K.out] at R⊢;have b1:=h3.size;have C3:zr 0 0 wr (y.alloc (zi #[.bool eg,zg g3 64 c3,.bool ee] 171)):=h3.alloc _
   have ah:Hid ((y.alloc (zi #[.bool eg,zg g3 64 c3,.bool ee] 171)).heap[y.heap.size]?=some (zi #[.bool eg,zg g3 64 c3,.bool ee] 171)):=zt _ _;have au:Hid (zu (y.alloc (zi #[.bool eg,zg g3 64 c3,.bool ee] 171)) (w.heap.size+2) 5 (zg g3 64 c3) es):=(R.chg (zr.al y) (by intro g _;omega)).base (fun g d=>by have:=(R.lt g d).1;omega);have aw:Hid (zu (y.alloc (zi #[.bool eg,zg g3 64 c3,.bool ee] 171)) (w.heap.size+2) 5 (zg g (64*k) gc) (Z0 (hs.take k))):=HO.chg C3 (by intro g _;omega)
   have an:Hid (je (y.alloc (zi #[.bool eg,zg g3 64 c3,.bool ee] 171)) (w.heap.size+2) (zj va k vc) ((hs.take k).map z9)):=HG.chg C3 (by intro g _;omega);have aj:Hid _:=C3.bt HD;have I:Hid _:=C3.bt HB;have J:Hid _:=HC.trans C3;have az:Hid _:=C3.cell HX;have b0:w.heap.size+2≤y.heap.size:=zk;have bS:=(R.lt g3 rfl).2;clear R h3 C3 HO HG HD HB HC HX c1 c2 k0 k1 k2 Q;go_upto_region 15 with fail;have b2:(y.alloc (zi #[.bool eg,zg g3 64 c3,.bool ee] 171)).heap.size=y.heap.size+1:=zn
   generalize bA:y.heap.size=BC at*;generalize y.alloc (zi #[.bool eg,zg g3 64 c3,.bool ee] 171)=D at*;clear bA;go_cut [74] (fun _ wx=>(∃va vc,je wx (w.heap.size+2) (zj va (k+1) vc) ((hs.take (k+1)).map z9)∧wx.heap[w.heap.size+1]?=some (zi #[za q,zj va (k+1) vc] 169))∧wx.heap[w.heap.size]?=some (zi #[za q,zj (some ⟨b,off,none⟩) hs.length cap,zj ao 0 ac] 35)∧wx.heap[BC]?=some (zi #[.bool eg,zg g3 64 c3,.bool ee] 171)∧zu wx (w.heap.size+2) 5 (zg g3 64 c3) es∧zu wx (w.heap.size+2) 5 (zg g (64*k) gc) (Z0 (hs.take k))∧zr 0 0 w wx∧BC<wx.heap.size)
   case first=>
    have HS:Hid ((fun w':World=>(w'.heap[w.heap.size]?=some (zi #[za q,zj (some ⟨b,off,none⟩) hs.length cap,zj ao 0 ac] 35)∧w'.heap[w.heap.size+1]?=some (zi #[za q,zj va k vc] 169))∧w'.heap[BC]?=some (zi #[.bool eg,zg g3 64 c3,.bool ee] 171)∧w'.cell? ⟨b,off+k*2,none⟩=some (za x)) D.drew):=⟨⟨I,aj⟩,ah,az⟩;refine wRg 14 (fun w':World=>(w'.heap[w.heap.size]?=some (zi #[za q,zj (some ⟨b,off,none⟩) hs.length cap,zj ao 0 ac] 35)∧w'.heap[w.heap.size+1]?=some (zi #[za q,zj va k vc] 169))∧w'.heap[BC]?=some (zi #[.bool eg,zg g3 64 c3,.bool ee] 171)∧w'.cell? ⟨b,off+k*2,none⟩=some (za x)) ?_
    refine wT2 0 (.pointer (some ⟨w.heap.size+1,1,none⟩)) rfl ?_;go_simp;refine wTk 1 (zj va k vc) rfl (fun w' f=>by obtain⟨q0,q1,_,_⟩:=zw f.1.2;go_simp) HS.out ?_;go_simp;refine wT2 2 (.pointer (some ⟨w.heap.size,1,none⟩)) rfl ?_;go_simp;refine wTk 3 (zj (some ⟨b,off,none⟩) hs.length cap) rfl (fun w' f=>by obtain⟨⟨q0,q1,q2⟩,_⟩:=tri f.1.1;go_simp) HS.out ?_;go_simp;refine wT2 4 (za k) rfl ?_;go_simp
    refine wT2 5 (.pointer (some ⟨b,off+k*2,none⟩)) rfl ?_;go_simp;refine wT2 6 (.pointer (some ⟨b,off+k*2,none⟩)) rfl ?_;go_simp;refine wTk 7 (za x) rfl (fun w' f=>by have q0:=f.2.2;go_simp) HS.out ?_;go_simp;refine wT2 8 (.pointer (some ⟨BC,2,none⟩)) rfl ?_;go_simp;refine wTk 9 (.bool ee) rfl (fun w' f=>by obtain⟨⟨q0,q1,q2⟩,_⟩:=tri f.2.1;go_simp) HS.out ?_;go_simp;refine wT2 10 (.agg #[za x,.bool ee]) rfl ?_
    go_simp;have Cd:=zr.drew (zr.refl 0 0 D);have Y:Hid (zu D.drew (w.heap.size+2) 5 (zg g3 64 c3) es):=au.chg Cd (by intro g _;omega);have a1:Hid (zu D.drew (w.heap.size+2) 5 (zg g (64*k) gc) (Z0 (hs.take k))):=aw.chg Cd (by intro g _;omega);have aY:Hid (je D.drew (w.heap.size+2) (zj va k vc) ((hs.take k).map z9)):=an.chg Cd (by intro g _;omega);have T:Hid _:=J.trans Cd;have b3:BC<D.drew.heap.size:=by show BC<D.heap.size;omega
    clear Cd au aw an J ah aj I az;generalize D.drew=P at*;obtain⟨it,bH,bJ,aG,bY⟩:=na Tryz.infoG;have C6:zr 0 0 P (P.alloc (zi #[za x,.bool ee] 174)):=zr.al P;have bv:Hid ((P.alloc (zi #[za x,.bool ee] 174)).heap[P.heap.size]?=some (zi #[za x,.bool ee] 174)):=zt _ _;have s6:(P.alloc (zi #[za x,.bool ee] 174)).heap.size=P.heap.size+1:=zn;refine wOn 11 rfl ?_;refine oe 167 174 1 #[(0,.tmp 74)] rfl #[za x,.bool ee] it _ Tryz.underlying167 bH bJ (by rw[aG];decide) (by rw[aG];decide) (by rw[aG,oh];refine NX _ ?_ _ _;simp) ?_
    generalize P.alloc (zi #[za x,.bool ee] 174)=S at*;have r:Hid ((fun w':World=>(w'.heap[w.heap.size]?=some (zi #[za q,zj (some ⟨b,off,none⟩) hs.length cap,zj ao 0 ac] 35)∧w'.heap[w.heap.size+1]?=some (zi #[za q,zj va k vc] 169))∧w'.heap[BC]?=some (zi #[.bool eg,zg g3 64 c3,.bool ee] 171)∧w'.cell? ⟨b,off+k*2,none⟩=some (za x)) S):=⟨⟨C6.bt HS.1.1,C6.bt HS.1.2⟩,C6.bt HS.2.1,C6.cell HS.2.2⟩;have M:Hid (zu S (w.heap.size+2) 5 (zg g3 64 c3) es):=Y.chg C6 (by intro g _;omega)
    have ax:Hid (zu S (w.heap.size+2) 5 (zg g (64*k) gc) (Z0 (hs.take k))):=a1.chg C6 (by intro g _;omega);have L:Hid (je S (w.heap.size+2) (zj va k vc) ((hs.take k).map z9)):=aY.chg C6 (by intro g _;omega);have U:Hid _:=T.trans C6;refine⟨fun _=>r.out,?_⟩;clear C6 HS Y a1 aY T;go_simp;refine wOn 12 rfl ?_;refine Uz (.tmp 65) (.tmp 75) rfl (w.heap.size+2) _ ((hs.take k).map z9) rfl L P.heap.size 1 (x,ee) rfl bv (by rw[a6.out];omega) zk ?_
    intro v8 E o8 h8;rw[←a5.out] at o8;have aE:((hs.take (k+1)).map z9).length=k+1:=by rw[a5.out,mL,a6.out];rfl
    obtain⟨a8,c8,rfl⟩: ∃a c,v8=zj a (k+1) c:=by
     rcases o8.2 with⟨_,e⟩|⟨g',bK,bR,e',_⟩
     ·rw[aE] at e;omega
     ·exact⟨_,_,by rw[e',aE]⟩
    have C: ∀j,(Value.slice va k vc).ownBlock=some j→w.heap.size+2≤j:=fun j hj=>(L.lt j hj).1;have bl:=L.apart M;have aD:=L.apart ax;have N:=zr.ofGrown0 h8 C;have Z: ∀j,(Value.slice va k vc).ownBlock=some j→j≠BC:=fun j hj e=>by
     obtain⟨cc,aC⟩:=L.elem hj;rw[e,r.out.2.1] at aC;simp only[nS,oL] at aC;exact absurd aC.2.1 zp
    have F:Hid ((fun w':World=>(w'.heap[w.heap.size]?=some (zi #[za q,zj (some ⟨b,off,none⟩) hs.length cap,zj ao 0 ac] 35)∧w'.heap[w.heap.size+1]?=some (zi #[za q,zj va k vc] 169))∧w'.heap[BC]?=some (zi #[.bool eg,zg g3 64 c3,.bool ee] 171)∧w'.cell? ⟨b,off+k*2,none⟩=some (za x)) E):=⟨⟨N.bt r.1.1,N.bt r.1.2⟩,(h8.block _ zk (fun e=>Z _ e.symm rfl)).trans r.2.1,N.cell r.2.2⟩;have av:Hid (zu E (w.heap.size+2) 5 (zg g3 64 c3) es):=M.grown h8 bl
    have ay:Hid (zu E (w.heap.size+2) 5 (zg g (64*k) gc) (Z0 (hs.take k))):=ax.grown h8 aD;have ap:Hid (je E (w.heap.size+2) (zj a8 (k+1) c8) ((hs.take (k+1)).map z9)):=o8;have aR:Hid (zr 0 0 w E):=U.step N;have s8:=N.size;refine⟨fun _=>F.out,?_⟩;clear o8 h8 N r M ax L U aE bl aD Z C;go_simp;refine wTk 13 (.pointer (some ⟨w.heap.size+1,1,none⟩)) rfl (fun w' f=>zm) F.out ?_;go_simp;obtain⟨z0,z1,y0,y1⟩:=zw F.1.2
    have cc: ∀u:Value,zr (w.heap.size+1) (w.heap.size+2) E (E.setCell ⟨w.heap.size+1,1,none⟩ u):=fun u=>zr.setCell (p:=⟨w.heap.size+1,1,none⟩) (zr.refl (w.heap.size+1) (w.heap.size+2) E) (Or.inl ⟨by show w.heap.size+1≤w.heap.size+1;omega,by show w.heap.size+1<w.heap.size+2;omega⟩) u;have be:=F.1.2
    have aX:Hid (∀u:Value,(je (E.setCell ⟨w.heap.size+1,1,none⟩ u) (w.heap.size+2) (zj a8 (k+1) c8) ((hs.take (k+1)).map z9)∧(E.setCell ⟨w.heap.size+1,1,none⟩ u).heap[w.heap.size+1]?=some (zi #[za q,u] 169))∧(E.setCell ⟨w.heap.size+1,1,none⟩ u).heap[w.heap.size]?=some (zi #[za q,zj (some ⟨b,off,none⟩) hs.length cap,zj ao 0 ac] 35)∧(E.setCell ⟨w.heap.size+1,1,none⟩ u).heap[BC]?=some (zi #[.bool eg,zg g3 64 c3,.bool ee] 171)∧zu (E.setCell ⟨w.heap.size+1,1,none⟩ u) (w.heap.size+2) 5 (zg g3 64 c3) es∧zu (E.setCell ⟨w.heap.size+1,1,none⟩ u) (w.heap.size+2) 5 (zg g (64*k) gc) (Z0 (hs.take k))∧zr 0 0 w (E.setCell ⟨w.heap.size+1,1,none⟩ u)∧BC<(E.setCell ⟨w.heap.size+1,1,none⟩ u).heap.size):=fun u=>
     ⟨⟨ap.chg (cc u) (fun g d=>by have:=(ap.lt g d).1;omega),by simp[World.setCell,rH,be]⟩,((cc u).bk _).trans F.1.1,((cc u).bk _).trans F.2.1,av.chg (cc u) (fun g d=>by have:=(av.lt g d).1;omega),ay.chg (cc u) (fun g d=>by have:=(ay.lt g d).1;omega),aR.step (cc u),by have:=(cc u).size;omega⟩
    clear cc be ap av ay aR F;refine wOn 14 rfl ?_;go_simp;refine wDn ?_;clear z0 z1 y0 y1;go_wp2;go_meet;obtain⟨f1,f2⟩:=aX.out (zj a8 (k+1) c8);exact⟨⟨a8,c8,f1⟩,f2⟩
   case rest=>
    obtain⟨⟨va',vc',bj,bh⟩,bd,bg,aF,ag,bf,bQ⟩:=hcut;generalize wc=w9 at*;obtain⟨⟨y0,y1,y2⟩,_⟩:=tri bg;have ae:Hid (zu w9 (w.heap.size+2) 5 (zg g (64*k) gc) (Z0 (hs.take k))):=ag;have a9:Hid (zC w9 (w.heap.size+2) w9.heap.size .u8 (zg g3 64 c3) es):=aF.view (by rw[K.out];omega) (fun g d=>(aF.lt g d).2);have aq:Hid (je w9 (w.heap.size+2) (zj va' (k+1) vc') ((hs.take (k+1)).map z9)):=bj;have aV:Hid _:=bh
    have aN:Hid _:=bd;have aS:Hid _:=bf;clear bj bh bd bg aF ag bf ah au aw an aj I J az;go_wp2_with (at_builtin;refine Kl rfl (.tmp 78) (.tmp 80) rfl (w.heap.size+2) _ (Z0 (hs.take k)) rfl ae.out zk _ _ _ es rfl a9.out (by rw[K.out];omega) (by rw[K.out,a7.out];omega) ?_);intro br aI bo aA;have C: ∀j,(zg g (64*k) gc).ownBlock=some j→w.heap.size+2≤j:=fun j hj=>(ae.lt j hj).1;have A:=zr.ofGrown0 aA C
    have HG10:Hid (je aI (w.heap.size+2) (zj va' (k+1) vc') ((hs.take (k+1)).map z9)):=aq.grown aA (fun j hj hk=>aq.apart ae j hk hj);have HD10:Hid _:=A.bt aV;have HB10:Hid _:=A.bt aN;have HC10:Hid _:=aS.step A;have HO10:Hid (zu aI (w.heap.size+2) 5 br (Z0 (hs.take (k+1)))):=by show zu _ _ _ _ _;rw[a4.out];exact bo
    have HV10:Hid (∃g c,br=zg g (64*(k+1)) c):=by
     have hl:(Z0 (hs.take (k+1))).length=64*(k+1):=by
      have e2:(Z0 (hs.take k)++es).length=(Z0 (hs.take k)).length+es.length:=mL;rw[a4.out,e2,a7.out,K.out];omega
     obtain⟨g',c',e'⟩:=HO10.some_of (by rw[hl];omega);exact⟨g',c',by rw[e',hl]⟩
    have bZ:=A.size;have sz10:w.heap.size+2≤aI.heap.size:=zk;clear bo aA A C ae a9 aq aV aN aS y0 y1 y2;go_wp2;go_roundw
    case rel=>exact⟨k+1,zk,by go_num,HV10.out,HO10.out,⟨va',vc',HG10.out,HD10.out⟩,HB10.out,HC10.out,sz10⟩
    case measure=>simp[intOf];omega
  ·obtain rfl:k=n:=zk;have aD: ¬((k:Int)<(k:Int)):=zk;have s:((hs.take k).map z9).length=k:=by rw[mO];exact t.2.2
   obtain⟨gt,ct,et,bM,bN,H⟩:=d.cells (by rw[s];omega);rw[s] at et;obtain⟨rfl,rfl⟩:va=some (zd gt)∧vc=ct:=by simp only[ns] at et;exact⟨et.1,et.2.2⟩
   have bC:=zw hd;obtain⟨d0,d1,_,_⟩:=bC;have Q:Calls Tryz.prog 96 #[.agg #[za q,zg gt k vc]] wr fun e w'=> ∃v,e= .returned v∧zu w' wr.heap.size 5 v (Jw q (hs.take k))∧zr 0 0 wr w':=by
    have:=Xh wr q ((hs.take k).map z9) gt 0 vc m.q0 m.q1 (by rw[s];omega) (by rw[s];omega) (EN (m.takeH k)) H;rw[s] at this;unfold Jw;rw[t.out.2.2];exact this
   have V:Hid ((Jw q (hs.take k)).length=64):=bD m.q0 m.q1 (by rw[t.out.2.2];omega) (m.takeH k).homes_in;have ak:Hid ((Z0 (hs.take k)).length=64*k):=by show _=_;rw[Yq (fun x hx=>m.out.data x (ot hx)),t.out.2.2]
   clear ho d hd af hc H et;go_wp2_with fail;refine Q.mono ?_;rintro e y ⟨v3,rfl,R,h3⟩;obtain⟨g3,c3,rfl⟩:=R.some_of (by rw[V.out];omega);rw[V.out] at R⊢;have s3:=h3.size;have bb:zC y wr.heap.size y.heap.size .u8 (zg g3 64 c3) (Jw q (hs.take k)):=R.view (by rw[V.out];omega) (fun g d=>(R.lt g d).2);have aB:=HO.chg h3 (by intro g _;omega);have bc:zC y (w.heap.size+2) y.heap.size .u8 (zg g (64*k) gc) (Z0 (hs.take k)):=aB.view (by rw[ak.out];omega) (fun g d=>(aB.lt g d).2)
   have Q:=qw (xs:=Jw q (hs.take k)) (ys:=Z0 (hs.take k)) y (by rw[V.out];omega) (by rw[ak.out];omega) bb bc;have I:Hid _:=h3.bt HB;have J:Hid _:=HC.trans h3;have aW:Hid ((zW q (hs.take k)).flatten=Jw q (hs.take k)++Z0 (hs.take k)):=by show _=_;unfold zW Z0;rw[oC]
   have ar:Hid ((Jw q (hs.take k)++Z0 (hs.take k)).length=64*(zW q (hs.take k)).length):=by
    show _=_;rw[mL,V.out,ak.out];unfold zW;rw[m7,mO,t.out.2.2];omega
   have bi:(zW q (hs.take k)).length=k+1:=by unfold zW;rw[m7,mO,t.out.2.2]
   have z:Hid _:=bi;clear R h3 bb bc aB HO HG HD HB HC d0 d1 bi s;go_wp2_with fail;refine Q.mono ?_;rintro e D ⟨v4,rfl,o4,h4⟩;obtain⟨g4,c4,rfl⟩:=o4.some_of (by rw[ar.out,z.out];omega);rw[ar.out,z.out] at o4⊢;have s4:=h4.size;have aM:Hid _:=h4.bt I;have T:Hid _:=J.trans h4;have Y:Hid (zu D w.heap.size 5 (zg g4 (64*(k+1)) c4) (zW q (hs.take k)).flatten):=by
    show zu _ _ _ _ _;rw[aW.out];exact o4.base (fun g d=>by have:=(o4.lt g d).1;omega)
   have X:Hid ((zW q (hs.take k)).flatten.length=64*(k+1)):=by show _=_;rw[aW.out,ar.out,z.out]
   clear o4 h4 I J Q;obtain⟨ad,bB⟩: ∃ad:Option Addr,(if cap=k then some (⟨b,off,none⟩:Addr) else some ⟨b,off+k*2,none⟩)=ad:=⟨_,rfl⟩;have bz:Hid (∀W,zr 0 0 w W→qW W 0 w.heap.size (zj ad (hs.length-k) (cap-k)) (hs.drop k)):=fun W hW=>by
    rw[←bB];split
    ·have e:hs.drop k= []:=pp zk;rw[e];exact⟨_,cap-k,by rw[show hs.length-k=0 by omega];rfl,zn,zn,Or.inl rfl⟩
    ·refine⟨_,cap-k,by rw[m8],by rw[m8];omega,by rw[m8];omega,Or.inr ⟨b,off+k*2,rfl,mX _,hb,fun i hi=>?_⟩⟩;rw[m8] at hi;obtain⟨dv,r1,r2,r3⟩:=H1.out (k+i) zk;have e:(hs.drop k).getD i (0,[])=hs.getD (k+i) (0,[]):=zn;rw[e];refine⟨dv,?_,?_,(r3.chg hW zk).mono (mX _) bE⟩
     ·rw[show off+k*2+i*2=off+(k+i)*2 by omega];exact hW.cell r1
     ·rw[show off+k*2+i*2+1=off+(k+i)*2+1 by omega];exact hW.cell r2
   have n1: ¬cap<k:=zk;have n2: ¬hs.length<k:=zk;obtain⟨i1,i2⟩:=Ea 128 (q:=q) (hs:=hs.drop k) (rs:= []) (by rw[m8];simp;omega) (m.dropH k);have am:Hid _:=Jh i1;have bO:(BL q (hs.drop k) []).length≤256:=by rw[m8] at i2;simp at i2;omega
   clear i1 i2;go_wp2;have HS:Hid ((fun w':World=>w'.heap[w.heap.size]?=some (zi #[za q,zj (some ⟨b,off,none⟩) hs.length cap,zj ao 0 ac] 35)) D.drew):=aM.out;refine hRg (fun w':World=>w'.heap[w.heap.size]?=some (zi #[za q,zj (some ⟨b,off,none⟩) hs.length cap,zj ao 0 ac] 35)) ?_;refine hT2 0 (zg g4 (64*(k+1)) c4) rfl ?_;go_simp;refine hT2 1 (zh w.heap.size) rfl ?_;go_simp;refine hTk 2 (za q) rfl (fun w' f=>by obtain⟨⟨q0,q1,q2⟩,_⟩:=tri f;go_simp) HS.out ?_
   go_simp;refine hT2 3 (.pointer (some ⟨w.heap.size,1,none⟩)) rfl ?_;go_simp;refine hTk 4 (zj (some ⟨b,off,none⟩) hs.length cap) rfl (fun w' f=>by obtain⟨⟨q0,q1,q2⟩,_⟩:=tri f;go_simp) HS.out ?_;go_simp;refine hT2 5 (za k) rfl ?_;go_simp;refine hT2 6 (zj ad (hs.length-k) (cap-k)) rfl ?_;go_simp;refine hT2 7 (.agg #[za q,zj ad (hs.length-k) (cap-k),zc]) rfl ?_;go_simp;have ab:Hid _:=T.drew;have a0:Hid (zu D.drew w.heap.size 5 (zg g4 (64*(k+1)) c4) (zW q (hs.take k)).flatten):=Y.chg (zr.drew (zr.refl 0 0 D)) (by intro g _;omega)
   have s5:w.heap.size<D.drew.heap.size:=by show _<D.heap.size;omega
   generalize D.drew=P at*;clear T Y aM;refine hOn 8 rfl ?_;refine zv 46 #[.agg #[za q,zj ad (hs.length-k) (cap-k),zc]] zq (a2.out P _ ab.out (bz.out P ab.out)) ?_;rintro e S ⟨g6,c6,rfl,o6,h6⟩;have r:Hid ((fun w':World=>w'.heap[w.heap.size]?=some (zi #[za q,zj (some ⟨b,off,none⟩) hs.length cap,zj ao 0 ac] 35)) S):=h6.bt HS;have U:Hid _:=ab.trans h6;have s6:=h6.size;have bw:Hid (zC S P.heap.size S.heap.size .u8 (zg g6 (64*(BL q (hs.drop k) []).length) c6) (BL q (hs.drop k) []).flatten):=o6.view (by rw[am.out];omega) (fun g d=>(o6.lt g d).2)
   have M:Hid (zu S w.heap.size 5 (zg g4 (64*(k+1)) c4) (zW q (hs.take k)).flatten):=a0.chg h6 (by intro g _;omega);have bx:Hid (zC S w.heap.size S.heap.size .u8 (zg g4 (64*(k+1)) c4) (zW q (hs.take k)).flatten):=M.view (by rw[X.out];omega) (fun g d=>(M.lt g d).2);refine⟨_,rfl,r,?_⟩;clear o6 h6 a0 HS ab;go_simp;have Q:=qw (xs:=(zW q (hs.take k)).flatten) (ys:=(BL q (hs.drop k) []).flatten) S (by rw[X.out];omega) (by rw[am.out];omega) bx bw
   refine hOn 9 rfl ?_;refine zv 48 #[zg g4 (64*(k+1)) c4,zg g6 (64*(BL q (hs.drop k) []).length) c6] zq Q ?_;rintro e w7 ⟨v7,rfl,o7,h7⟩;have a3:Hid _:=h7.bt r;have bs:Hid _:=U.trans h7;have G:((zW q (hs.take k)).flatten++(BL q (hs.drop k) []).flatten).length=64*(BL q hs []).length:=by rw[ai.out,mL,X.out,am.out,mL,z.out];omega
   obtain⟨g7,c7,rfl⟩:=o7.some_of (by rw[G,ai.out,mL,z.out];omega);rw[G] at o7⊢;have bu:Hid (zu w7 w.heap.size 5 (zg g7 (64*(BL q hs []).length) c7) (BL q hs []).flatten):=by
    have e:(BL q hs []).flatten=(zW q (hs.take k)).flatten++(BL q (hs.drop k) []).flatten:=by rw[ai.out,rP]
    show zu _ _ _ _ _;rw[e];exact o7.base (fun g d=>by have:=(o7.lt g d).1;omega)
   refine⟨_,rfl,a3,?_⟩;clear o7 h7 Q r U G;go_simp;refine hOn 10 rfl ?_;go_simp;refine⟨a3,?_⟩;refine hDn ?_;go_wp2;go_ret;exact⟨_,_,rfl,bu,bs⟩
theorem Ng (n:Nat): ∀(w:World) {lo hi:Nat} {a:Value} {t:Tx},t.homes.length+t.rV.length≤n→n≤128→OkT t.seq t.homes t.rV→hi≤w.heap.size→jy w lo hi a t→
  Calls Tryz.prog 46 #[a] w fun e w'=>Told w w' e (BL t.seq t.homes t.rV):=by
 induction n with
 |zero=>
  intro w lo hi a t l _ _ _ r;obtain⟨q,hs,rs⟩:=t;obtain⟨A,D,rfl,h1,h2⟩:=r;simp only at l h1 h2⊢;obtain rfl:hs= []:=nT zk;obtain rfl:rs= []:=nT (by simp only[nH] at l;omega);obtain⟨y,pc,rfl⟩:=h1.slice;obtain⟨m,E,rfl⟩:=h2.slice;exact NK w q y m pc E
 |succ n ih=>
  intro w lo hi a t l F g o r;obtain⟨q,hs,rs⟩:=t;obtain⟨A,D,rfl,h1,h2⟩:=r;simp only at l g h1 h2⊢;by_cases x:0<rs.length
  ·obtain⟨m,cap,rfl,_,⟨f,_⟩,d⟩:=h2;obtain⟨b,c,rfl,s,u,j⟩: ∃b c,m=some ⟨b,c,none⟩∧lo≤b∧b<hi∧ ∀i,i<rs.length→w.cell? ⟨b,c+i,none⟩=some (za (rs.getD i 0)):=by
    rcases d with e|h
    ·rw[e] at x;simp at x
    ·exact h
   refine gO w b c cap g x zk zk f h1 j ?_;intro w' D p k;exact ih w' (lo:=0) (hi:=w.heap.size) (t:=⟨q,hs,rs.drop 26⟩) (by simp only[m8];omega) zk (g.dropR 26) p.size ⟨_,_,rfl,(h1.chg p zk).mono (mX _) o,k⟩
  ·obtain rfl:rs= []:=nT zk;obtain⟨C,B,rfl⟩:=h2.slice;by_cases v:0<hs.length
   ·obtain⟨m,cap,rfl,_,f,d⟩:=h1;obtain⟨b,c,rfl,s,u,j⟩: ∃b c,m=some ⟨b,c,none⟩∧lo≤b∧b<hi∧ ∀i,i<hs.length→ ∃z,w.cell? ⟨b,c+i*2,none⟩=some (za (hs.getD i (0,[])).1)∧w.cell? ⟨b,c+i*2+1,none⟩=some z∧zC w lo hi .u8 z (hs.getD i (0,[])).2:=by
     rcases d with e|h
     ·rw[e] at v;simp at v
     ·exact h
    refine eH w C B b c cap g v (by simp only[nH] at l;omega) zk o f j ?_;intro w' A p k;exact ih w' (lo:=0) (hi:=w.heap.size) (t:=⟨q,hs.drop 17,[]⟩) (by simp only[m8,nH] at l⊢;omega) zk (g.dropH 17) p.size ⟨_,_,rfl,k,zC.nil _ _ _ _⟩
   ·obtain rfl:hs= []:=nT zk;obtain⟨y,pc,rfl⟩:=h1.slice;exact NK w q y C pc B
end Go.Proofs.YthdeofoleiiibaaGreatDoor
