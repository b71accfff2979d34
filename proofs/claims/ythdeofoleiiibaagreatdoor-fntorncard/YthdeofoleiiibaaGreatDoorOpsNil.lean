import Derived.Test.YthdeofoleiiibaaGreatDoorJAre
import Derived.Deep.DeepAppendRoom
namespace Go.Proofs.YthdeofoleiiibaaGreatDoor
open Go.RowKit
set_option maxRecDepth 100000
set_option maxHeartbeats 16000000
variable {w w' x:World}{hi lo p s l r n:Nat}{a v b c kv dv:Value}{sq st sz hd us q:Int}{dvs:Nat→Value}{t eO eB:TypeId}{cells cur:List Value}{xs:List Int}
def Qt (ps:List Wr) (at':Int) (dflt:List Int):List Int:=ps.foldl (fun acc p=>if p.1=at' then p.2 else acc) dflt
theorem QP (ps:List Wr)(a:Int)(b:List Int)(h: ∀j,j<ps.length→(ps.getD j (0,[])).1≠a):Qt ps a b=b:=by
 induction ps generalizing b with
 |nil=>rfl
 |cons p r ih=>
  have h0:p.1≠a:=by simpa using h 0 zn
  have d:=ih b (fun j c=>by simpa using h (j+1) (by simpa using c));simp only[Qt,rN,mN h0] at*;exact d
theorem JN (xs ys:List Wr)(a:Int)(b:List Int):Qt (xs++ys) a b=Qt ys a (Qt xs a b):=by simp[Qt]
theorem EJ (ps:List Wr)(a:Int)(b:List Int)(k:Nat)(d:k<ps.length)(c:(ps.getD k (0,[])).1=a)(h: ∀j,k<j→j<ps.length→(ps.getD j (0,[])).1≠a):Qt ps a b=(ps.getD k (0,[])).2:=by
 have e:ps=ps.take (k+1)++ps.drop (k+1):=(si _ _).symm;have f:Qt ps a b=Qt (ps.drop (k+1)) a (Qt (ps.take (k+1)) a b):=by rw[←JN,←e]
 rw[f,QP (ps.drop (k+1)),oy d,JN]
 ·have g:ps.getD k (0,[])=ps[k]:=by simp[d]
  rw[g] at c⊢;simp[Qt,c]
 ·intro j i;rw[m8] at i;have:=h (k+1+j) zk zk;simpa using this
def see (d:Dsk) (a:Nat):List Int:=Qt d.pN (a:Int) ((d.dR.drop (a*64)).take 64)
theorem cW {d:Dsk}(f:qL d)(a:Nat)(h:a<d.dR.length/64):(see d a).length=64:=by
 unfold see;have h0:((d.dR.drop (a*64)).take 64).length=64:=by
  rw[mW,m8];omega
 have b:=f.2.2.2.2;generalize (d.dR.drop (a*64)).take 64=x at*;generalize d.pN=ps at*
 induction ps generalizing x with
 |nil=>exact h0
 |cons p r ih=>
  have e:p.2.length=64:=by have:=(b 0 zn).2.2;simpa using this
  have c: ∀i,i<r.length→Good (d.dR.length/64) (r.getD i (0,[])):=fun i hi=>by have:=b (i+1) (by simpa using hi);simpa using this
  simp only[Qt,rN];split
  ·exact ih p.2 e c
  ·exact ih x h0 c
theorem V9 (w:World){base:Nat}{d:Dsk}(a:Nat)(h:Dev w base p d)(ha:a<d.dR.length/64)(ae:p<w.heap.size):
  Calls Tryz.prog 80 #[zh p,za a] w fun e w'=>e= .returned (.agg ((see d a).map (Value.int .u8)).toArray)∧zr 0 0 w w':=by
 obtain⟨T,po,m,cap,W,hp,hb,ab,rfl,N,J⟩:=h.rows;obtain⟨Y,Z,_,_⟩:=zw hb;have hm:=W.2.2.2.1;go_enter Tryz.func80,Tryz.ntmps80;go_wp2;generalize hW:World.alloc w _=n;have T0:n.there w.heap.size 0 64:=by rw[←hW];exact Ju w _ _ 64 rfl
 have K:zr 0 0 w n:=by rw[←hW];exact zr.al w
 have Y:=K.cell Y;have Z:=K.cell Z;have X:=Tryz.underlying78;have Q:Hid (∀j,j<d.dR.length→n.cell? ⟨T,j,none⟩=some (zb (d.dR.getD j 0))):=fun j x=>K.cell (N j x);have R:Hid (0<d.pN.length→ ∃y,po=some (zd y)∧base≤y∧ ∀j v,(flat d.pN)[j]?=some v→n.cell? ⟨y,j,none⟩=some v):=by
  intro h0;obtain⟨y,e,h1,h2⟩:=J h0;exact⟨y,e,h1,fun j v x=>K.cell (h2 j v x)⟩
 have O:Hid (qL d):=W;have HL:=cW W a ha;have o:Hid _:=HL;have P:Hid _:=K;have E:Hid _:=T0;have S: ∀cs:List Value,cs=(see d a).map (Value.int .u8)→(loadVar 78 (zd w.heap.size)).run Tryz.prog (n.setCells w.heap.size 0 cs)= .ok (.agg ((see d a).map (Value.int .u8)).toArray) (n.setCells w.heap.size 0 cs):=by
  intro cs b;have hl:cs.length=64:=by rw[b];simpa using o.out
  rw[←b];exact run_loadVar_mid _ _ _ _ cs _ (World.rangeAt_setCells_same _ _ _ _ (by rw[hl];exact E)) X rfl (by rw[hl];kernel_rfl)
 have l:Hid _:=S;have g:Hid (∀cs:List Value,zr 0 0 w (n.setCells w.heap.size 0 cs)):=fun cs=>P.step (zr.setCells w.heap.size cs 0 n) (Or.inr (Or.inl nlR));go_loop [5] (fun i=> ∃k:Nat,k≤d.pN.length∧i=za ((k:Int)-1)∧ ∀j,k≤j→j<d.pN.length→(d.pN.getD j (0,[])).1≠(a:Int)) (fun i=>(intOf i+1).toNat)
 case atStart=>exact⟨d.pN.length,mP _,rfl,by intro j h1 h2;omega⟩
 case round=>
  obtain⟨k,hk,rfl,V⟩:=hrel;have r:Hid _:=V
  cases k with
  |zero=>
   have c:see d a=(d.dR.drop (a*64)).take 64:=by unfold see;exact QP _ _ _ (fun j x=>r.out j zk x)
   obtain⟨cs,b⟩: ∃cs,cs=(see d a).map (Value.int .u8):=⟨_,rfl⟩;have H:cs.length=64:=by rw[b];simpa using o.out
   have L: ∀v∈cs,v.oneCell'=true:=by rw[b];exact nf _ _
   have M:n.rangeAt T (a*64) cs:=by
    intro j v x;have z:j<64:=by have:=(nD.1 x).1;omega
    rw[Q.out (a*64+j) zk,←x,b,c,nU,oA,mM z,oQ];simp only[mV];rw[mZ (show a*64+j<d.dR.length by omega)];rfl
   have D:Hid _:=M;have C:Hid _:=L;have B:Hid (cs.length=64):=H;have f:cs.toArray.size=64:=by simpa using H
   have F:Hid (n.there w.heap.size 0 cs.toArray.size):=by show World.there _ _ _ _;rw[f];exact E.out
   have A:Hid ((Tryz.prog.info? 78).map (·.size)=some cs.toArray.size):=by show _=_;rw[f];kernel_rfl
   clear f;have t:=l.out cs b;have G:Hid (_=_):=t;have I:=g.out cs;clear M H L b c Q R O r t l g;have aa:(a:Int)<((d.dR.length/64:Nat):Int):=zk;go_wp2_with (first
    |(refine wpList_load_mid rfl 78 (.tmp 39) rfl T (a*64) rfl cs _ D X rfl (by rw[B.out];kernel_rfl) ?_)
    |(refine wpList_store_mid rfl 78 (.tmp 4) (.tmp 40) rfl w.heap.size 0 cs.toArray rfl rfl F A (all_oneCell_toArray C) ?_))
   exact bodyPost_ret (XQ Tryz.results80 rfl G) rfl ⟨rfl,I⟩
  |succ k=>
   obtain⟨y,rfl,ac,s⟩:=R.out zk;have e0:=JA d.pN O.2.2.2.2 k 0;have hq:n.cell? ⟨y,k*65,none⟩=some (za (d.pN.getD k (0,[])).1):=s (k*65) _ (by rw[show k*65=k*65+0 from rfl,e0];rfl);have ad:(k:Int)<(d.pN.length:Int):=zk;rw[show((k+1:Nat):Int)-1=(k:Int) from zk];by_cases u:(d.pN.getD k (0,[])).1=(a:Int)
   ·have c:see d a=(d.pN.getD k (0,[])).2:=by unfold see;exact EJ _ _ _ k zk u (fun j h1 h2=>r.out j zk h2)
    obtain⟨cs,b⟩: ∃cs,cs=(see d a).map (Value.int .u8):=⟨_,rfl⟩;have H:cs.length=64:=by rw[b];simpa using o.out
    have L: ∀v∈cs,v.oneCell'=true:=by rw[b];exact nf _ _
    have M:n.rangeAt y (k*65+1) cs:=by
     intro j v x;have z:j<64:=by have:=(nD.1 x).1;omega
     rw[pm];refine s _ _ ?_;rw[JA d.pN O.out.2.2.2.2 k (1+j),←x,b,c,ru 1 j];rfl
    have D:Hid _:=M;have C:Hid (∀v∈cs,v.oneCell'=true):=L;have B:Hid (cs.length=64):=H;have f:cs.toArray.size=64:=by simpa using H
    have F:Hid (n.there w.heap.size 0 cs.toArray.size):=by show World.there _ _ _ _;rw[f];exact E.out
    have A:Hid ((Tryz.prog.info? 78).map (·.size)=some cs.toArray.size):=by show _=_;rw[f];kernel_rfl
    clear f;have t:=l.out cs b;have G:Hid (_=_):=t;have I:=g.out cs;have U:((d.pN.getD k (0,[])).1==(a:Int))=true:=by rw[beq_iff_eq];exact u
    generalize (d.pN.getD k (0,[])).1=q at*;clear M H L b c Q R O r t l g s e0 u;go_wp2_with (first
     |(refine wpList_load_mid rfl 78 (.tmp 32) rfl y (k*65+1) rfl cs _ D X rfl (by rw[B.out];kernel_rfl) ?_)
     |(refine wpList_store_mid rfl 78 (.tmp 4) (.tmp 33) rfl w.heap.size 0 cs.toArray rfl rfl F A (all_oneCell_toArray C) ?_))
    exact bodyPost_ret (XQ Tryz.results80 rfl G) rfl ⟨rfl,I⟩
   ·have U:((d.pN.getD k (0,[])).1==(a:Int))=false:=by rw[beq_eq_false_iff_ne];exact u
    have HN2:Hid (∀j,k≤j→j<d.pN.length→(d.pN.getD j (0,[])).1≠(a:Int)):=by
     intro j h1 h2;by_cases e:j=k
     ·subst e;exact u
     ·exact r j zk h2
    generalize (d.pN.getD k (0,[])).1=q at*;go_wp2;go_round
    case rel=>exact⟨k,zk,by go_num,HN2.out⟩
    case measure=>simp[intOf]
theorem kE (w:World){base:Nat}{d:Dsk}(a:Int)(ys:List Int)(h:Dev w base p d)(o:zC w lo hi .u8 b ys)
  (h0:600≤d.pN.length∨a<0∨((d.dR.length/64:Nat):Int)≤a∨ys.length≠64:=by omega):
  Calls Tryz.prog 109 #[zh p,za a,b] w fun e w'=>e= .returned (.bool false)∧w'=w:=by
 have k:Hid (Dev w base p d):=h;obtain⟨A,E,m,C,f,i,c⟩:=h;obtain⟨D,s,pc,rfl⟩:=zF c;obtain⟨v,x,y,z⟩:=zw f;have j:s=d.pN.length:=by
  rcases c.2 with⟨e,h0⟩|⟨g,cap,n,e,_⟩
  ·cases e;exact h0.symm
  ·simp only[ns] at e;exact e.2.1
 subst j;have B:=m.2.2.2.1;obtain⟨u,l,rfl,q,_,_⟩:=o;clear f i c m;by_cases h1:600≤d.pN.length
 ·go_enter Tryz.func109,Tryz.ntmps109;go_wp2;go_ret;exact⟨rfl,rfl⟩
 ·by_cases h2:0≤a∧a<((d.dR.length/64:Nat):Int)
  ·have h3:ys.length≠64:=zk;have r:((ys.length:Int) !=64)=true:=by simp;omega
   clear h0;go_enter Tryz.func109,Tryz.ntmps109;go_wp2_with fail;refine(Vn _ a k h2.1 h2.2).mono ?_;rintro e t ⟨rfl,rfl⟩;go_wp2;go_ret;exact⟨rfl,rfl⟩
  ·clear h0;go_enter Tryz.func109,Tryz.ntmps109;go_wp2_with fail;refine(l8 _ a k).mono ?_;rintro e t ⟨rfl,rfl⟩;go_wp2;go_ret;exact⟨rfl,rfl⟩
abbrev Opx:Type:=Int×Int×List Int
abbrev Opx.zero:Opx:=(0,0,[])
def jN (w:World) (lo hi:Nat) (v:Value) (os:List Opx):Prop:=
 ∃ao cap,v=zj ao os.length cap∧os.length≤9223372036854775807∧os.length≤cap∧
  (os= []∨ ∃b off,ao=some ⟨b,off,none⟩∧lo≤b∧b<hi∧ ∀i,i<os.length→ ∃dv,
   w.cell? ⟨b,off+i*3,none⟩=some (za (os.getD i Opx.zero).1)∧w.cell? ⟨b,off+i*3+1,none⟩=some (za (os.getD i Opx.zero).2.1)∧
   w.cell? ⟨b,off+i*3+2,none⟩=some dv∧zC w lo hi .u8 dv (os.getD i Opx.zero).2.2)
theorem jN.chg {os:List Opx}(h:jN w lo hi v os)(c:zr l r w w')(d:hi≤l∨r≤lo∨r≤l):jN w' lo hi v os:=by
 obtain⟨e,cap,p,o,n,h⟩:=h;refine⟨e,cap,p,o,n,?_⟩;rcases h with h|⟨b,a,m,h1,h2,h3⟩
 ·exact Or.inl h
 ·refine Or.inr ⟨b,a,m,h1,h2,fun i hi=>?_⟩;obtain⟨k,f,g,j,q⟩:=h3 i hi;exact⟨k,c.cell f,c.cell g,c.cell j,q.chg c d⟩
theorem jN.nil (w:World)(lo hi:Nat):jN w lo hi (zc) []:=⟨none,0,rfl,zn,zn,Or.inl rfl⟩
structure zL (w:World)(base:Nat)(eO eB:TypeId)(v:Value)(os:List Opx)(cells:List Value)(dvs:Nat→Value):Prop where
 row:w.ownsRow base eO 3 v os.length cells
 at0: ∀i,i<os.length→cells[i*3]?=some (za (os.getD i Opx.zero).1)
 at1: ∀i,i<os.length→cells[i*3+1]?=some (za (os.getD i Opx.zero).2.1)
 at2: ∀i,i<os.length→cells[i*3+2]?=some (dvs i)
 data: ∀i,i<os.length→zu w base eB (dvs i) (os.getD i Opx.zero).2.2
 apart: ∀i j g,i<j→j<os.length→(dvs i).ownBlock=some g→(dvs j).ownBlock≠some g
theorem zL.chg {base:Nat}{os:List Opx}(h:zL w base eO eB v os cells dvs)(c:zr l r w w')
  (d: ∀g,v.ownBlock=some g→g<l∨r≤g) (f: ∀i g,i<os.length→(dvs i).ownBlock=some g→g<l∨r≤g):zL w' base eO eB v os cells dvs:=by
 refine⟨?_,h.at0,h.at1,h.at2,fun i hi=>(h.data i hi).chg c (f i · hi),h.apart⟩;obtain⟨h1,h2⟩:=h.row;refine⟨h1,?_⟩;rcases h2 with h2|⟨g,cap,a,e,j,b,r⟩
 ·exact Or.inl h2
 ·refine Or.inr ⟨g,cap,a,e,j,?_,r⟩;rw[c.block g (zE b) (d g (by rw[e];rfl))];exact b
theorem zL.view {base:Nat}{os:List Opx}(h:zL w base eO eB v os cells dvs)(k:os.length≤9223372036854775807)
  (f: ∀i,i<os.length→(os.getD i Opx.zero).2.2.length≤9223372036854775807)  (d: ∀g,v.ownBlock=some g→g<hi) (b: ∀i g,i<os.length→(dvs i).ownBlock=some g→g<hi):jN w base hi v os:=by
 have a:=h.row;rcases a.2 with⟨rfl,h0⟩|⟨g,cap,c,rfl,j,l,e,_⟩
 ·obtain rfl:os= []:=nT h0;exact jN.nil _ _ _
 ·refine⟨_,cap,rfl,k,e,Or.inr ⟨g,0,rfl,j,d g rfl,fun i hi=>⟨dvs i,?_,?_,?_,(h.data i hi).view (f i hi) (b i · hi)⟩⟩⟩
  ·rw[ni,nA a (i*3) zk];exact h.at0 i hi
  ·rw[ni,nA a (i*3+1) zk];exact h.at1 i hi
  ·rw[ni,nA a (i*3+2) zk];exact h.at2 i hi
theorem KL {base:Nat}{e:TypeId}{size:Nat}{xs:List Value}(h:w.ownsRow base e size v n xs)(c:zr 0 0 w w'):w'.ownsRow base e size v n xs:=by
 obtain⟨h1,h2⟩:=h;refine⟨h1,?_⟩;rcases h2 with h2|⟨g,cap,a,f,d,b,r⟩
 ·exact Or.inl h2
 ·refine Or.inr ⟨g,cap,a,f,d,?_,r⟩;rw[c.bk g (zE b)];exact b
theorem Dev.chg0 {base:Nat}{d:Dsk}(h:Dev w base p d)(c:zr 0 0 w w'):Dev w' base p d:=by
 obtain⟨a,f,h1,h2,h3,b,e⟩:=h;exact⟨a,f,h1,h2,(c.bk p (zE h3)).trans h3,KL b c,KL e c⟩
theorem zr.into {base:Nat}{a b c:World}(h:zr 0 0 a b)(k:zr base b.heap.size b c):zr base a.heap.size a c:=
 ⟨k.os.trans h.os,k.tape.trans h.tape,k.output.trans h.output,nz h.size k.size,fun i hi d=>(k.block i (nE hi h.size) (Or.inl zk)).trans (h.bk i hi)⟩
theorem zr.onto {base:Nat}{a b c:World}(h:zr base a.heap.size a b)(k:zr base b.heap.size b c):zr base a.heap.size a c:=
 ⟨k.os.trans h.os,k.tape.trans h.tape,k.output.trans h.output,nz h.size k.size,fun i hi d=>(k.block i (nE hi h.size) (Or.inl zk)).trans (h.block i hi d)⟩
def opD (d:Dsk) (o:Opx):Option Dsk:=
 if o.1=1 then(if d.pN.length<600∧0≤o.2.1∧o.2.1<((d.dR.length/64:Nat):Int)∧o.2.2.length=64 then some ⟨d.dR,d.pN++ [(o.2.1,o.2.2)]⟩ else none)
 else if o.1=2 then(if o.2.1=0∧o.2.2.length=0 then some (setD (fun _=>true) d) else none) else none
theorem YP (h:w.heap[s]?=some (zi #[a,b,c] t)):
  w.cell? (zd s)=some a∧w.cell? ⟨s,1,none⟩=some b∧w.cell? ⟨s,2,none⟩=some c:=by
 simp[World.cell?,h]
def Did (w w':World) (base p:Nat) (r:Option Dsk) (e:Ending):Prop:=
 ∃b:Bool,e= .returned (.bool b)∧zr base w.heap.size w w'∧((b=true∧ ∃d',r=some d'∧Dev w' base p d')∨(b=false∧r=none))
theorem Did.yes {base:Nat}{r:Option Dsk}{e:Ending}(a:Dsk)(f:r=some a)(d:e= .returned (.bool true))(c:Dev w' base p a)(b:zr base w.heap.size w w'):Did w w' base p r e:=⟨true,d,b,Or.inl ⟨rfl,a,f,c⟩⟩
theorem Did.no {base:Nat}{r:Option Dsk}{e:Ending}(c:r=none)(b:e= .returned (.bool false))(a:zr base w.heap.size w w'):Did w w' base p r e:=⟨false,b,a,Or.inr ⟨rfl,c⟩⟩
theorem UB (w:World){base:Nat}{d:Dsk}(q a:Int)(ys:List Int)(h:Dev w base p d)(n:zC w lo hi .u8 dv ys)(l:hi≤base):
  Calls Tryz.prog 68 #[zh p,.agg #[za q,za a,dv]] w fun e w'=>Did w w' base p (opD d (1,a,ys)) e:=by
 have B:=zt w (zi #[za q,za a,dv] 71);have C:zr 0 0 w (w.alloc (zi #[za q,za a,dv] 71)):=zr.al w;obtain⟨r,s,t⟩:=YP B;have i:=n.chg C zk;have b:=h.chg0 C;obtain⟨A,z,rfl,_,_,_⟩:=n;by_cases c:d.pN.length<600∧0≤a∧a<((d.dR.length/64:Nat):Int)∧ys.length=64
 ·have k:Hid (opD d (1,a,ys)=some ⟨d.dR,d.pN++ [(a,ys)]⟩):=by show _=_;unfold opD;rw[mM rfl,mM c]
  obtain⟨x,u,y,m⟩:=c;obtain⟨v,rfl⟩:=tF u;have g:=gl _ v ys b i l m zk x;clear h B u y b i;have E:Hid _:=m;clear m;go_enter Tryz.func68,Tryz.ntmps68;go_wp2_with fail;refine g.mono ?_;rintro e D ⟨rfl,f,o⟩;have j:Hid _:=C.into o;clear g o C r s t;go_wp2;go_ret;exact Did.yes _ k rfl f j
 ·have k:Hid (opD d (1,a,ys)=none):=by show _=_;unfold opD;rw[mM rfl,mN c]
  have g:=kE _ a ys b i;have j:Hid (zr base w.heap.size w (w.alloc (zi #[za q,za a,zj A ys.length z] 71))):=C.into (zr.refl _ _ _);clear h B b i c C;go_enter Tryz.func68,Tryz.ntmps68;go_wp2_with fail;refine g.mono ?_;rintro e D ⟨rfl,rfl⟩;clear g r s t;go_wp2;go_ret;exact Did.no k rfl j
theorem UA (w:World){base:Nat}{d:Dsk}(q a:Int)(ys:List Int)(h:Dev w base p d)(r:zC w lo hi .u8 dv ys):
  Calls Tryz.prog 69 #[zh p,.agg #[za q,za a,dv]] w fun e w'=>Did w w' base p (opD d (2,a,ys)) e:=by
 have B:=zt w (zi #[za q,za a,dv] 71);have C:zr 0 0 w (w.alloc (zi #[za q,za a,dv] 71)):=zr.al w;have b:=h.chg0 C;obtain⟨x,v,rfl,_,_,_⟩:=r;obtain⟨s,t,u⟩:=YP B;have c:Hid (zr base w.heap.size w (w.alloc (zi #[za q,za a,zj x ys.length v] 71))):=C.into (zr.refl _ _ _);by_cases f:a=0
 ·have k:(a !=0)=false:=by rw[f];rfl
  by_cases j:ys.length=0
  ·have l:((ys.length:Int) !=0)=false:=by rw[j];rfl
   have i:Hid (opD d (2,a,ys)=some (setD (fun _=>true) d)):=by show _=_;unfold opD;rw[mN (show¬(2:Int)=1 by decide),mM rfl,mM ⟨f,j⟩]
   have m:=KB _ b;clear h B b f j c;go_enter Tryz.func69,Tryz.ntmps69;go_wp2_with fail;refine m.mono ?_;rintro e y ⟨rfl,g,n⟩;have o:Hid _:=C.into n;clear m n C s t u;go_wp2;go_ret;exact Did.yes _ i rfl g o
  ·have l:((ys.length:Int) !=0)=true:=by simp only[bne_iff_ne,ne_eq];omega
   have i:Hid (opD d (2,a,ys)=none):=by show _=_;unfold opD;rw[mN (show¬(2:Int)=1 by decide),mM rfl,mN (fun h=>j h.2)]
   clear h B b f j C;go_enter Tryz.func69,Tryz.ntmps69;go_wp2;go_ret;exact Did.no i rfl c
 ·have k:(a !=0)=true:=by simp only[bne_iff_ne,ne_eq];exact f
  have i:Hid (opD d (2,a,ys)=none):=by show _=_;unfold opD;rw[mN (show¬(2:Int)=1 by decide),mM rfl,mN (fun h=>f h.1)]
  clear h B b f C;go_enter Tryz.func69,Tryz.ntmps69;go_wp2;go_ret;exact Did.no i rfl c
theorem fZ (f:Nat)(w:World):(binOp .eql 122 (.func (.func f) #[] #[]) .nilFunc).run Tryz.prog w= .ok (.bool false) w:=by
 have h:(Op.equal 122 (.func (.func f) #[] #[]) .nilFunc).run Tryz.prog w= .ok false w:=by
  unfold Op.equal Op.maxDepth;rw[Op.equalIn];simp[pG Tryz.underlying122]
 simp[binOp,h]
theorem fY (w:World):(binOp .eql 122 .nilFunc .nilFunc).run Tryz.prog w= .ok (.bool true) w:=by
 have h:(Op.equal 122 .nilFunc .nilFunc).run Tryz.prog w= .ok true w:=by
  unfold Op.equal Op.maxDepth;rw[Op.equalIn];simp[pG Tryz.underlying122]
 simp[binOp,h]
theorem gW (w:World){base:Nat}{d:Dsk}(q a:Int)(ys:List Int)(h:Dev w base p d)(z:zC w lo hi .u8 dv ys)(x:hi≤base):
  Calls Tryz.prog 30 #[zh p,.agg #[za q,za a,dv]] w fun e w'=>Did w w' base p (opD d (q,a,ys)) e:=by
 have s:=z;obtain⟨C,B,rfl,_,_,_⟩:=z;have G:=fun(w:World) (a:Addr) (m:Mode)=>run_store Tryz.prog w a Value.nilFunc m rfl;have H:=fun(w:World) (a:Addr) (m:Mode)=>run_store Tryz.prog w a (.func (.func 68) #[] #[]) m rfl;have I:=fun(w:World) (a:Addr) (m:Mode)=>run_store Tryz.prog w a (.func (.func 69) #[] #[]) m rfl;have g:zr 0 0 w ((w.alloc (zi #[za q,za a,zj C ys.length B] 71)).alloc (zi #[.nilFunc,.func (.func 68) #[] #[],.func (.func 69) #[] #[]] 123)):=(zr.al w).alloc _
 have f:Hid (zr base w.heap.size w ((w.alloc (zi #[za q,za a,zj C ys.length B] 71)).alloc (zi #[.nilFunc,.func (.func 68) #[] #[],.func (.func 69) #[] #[]] 123))):=g.into (zr.refl _ _ _);have D:=fZ;have E:=fY;by_cases l:q=1
 ·subst l;have c:=h.chg0 g.drew;have r:=s.chg g.drew zk;have j:=UB _ 1 a ys c r x;have i:Hid _:=j;clear h c r s j f;go_enter Tryz.func30,Tryz.ntmps30;go_wp2;go_region_with (go_at_call 68;refine Calls.mono i.out ?_;rintro e J ⟨b,rfl,k,o⟩)
  all_goals
   have t:Hid _:=g.drew.into k
   have v:Hid _:=o
   clear k o i
   go_wp2
   go_ret
   exact⟨b,rfl,t,v⟩
 by_cases n:q=2
 ·subst n;have c:=h.chg0 g.drew;have r:=s.chg g.drew zk;have j:=UA _ 2 a ys c r;have i:Hid _:=j;clear h c r s j f;go_enter Tryz.func30,Tryz.ntmps30;go_wp2;go_region_with (go_at_call 69;refine Calls.mono i.out ?_;rintro e J ⟨b,rfl,k,o⟩)
  all_goals
   have t:Hid _:=g.drew.into k
   have v:Hid _:=o
   clear k o i
   go_wp2
   go_ret
   exact⟨b,rfl,t,v⟩
 have u:Hid (opD d (q,a,ys)=none):=by show _=_;unfold opD;rw[mN l,mN n]
 clear h s g;by_cases y:q=0
 ·subst y;go_enter Tryz.func30,Tryz.ntmps30;go_wp2;go_ret;exact Did.no u rfl f
 by_cases A:q<0
 ·go_enter Tryz.func30,Tryz.ntmps30;go_wp2;go_ret;exact Did.no u rfl f
 ·have F:q≥3:=zk;go_enter Tryz.func30,Tryz.ntmps30;go_wp2;go_ret;exact Did.no u rfl f
def Zt:Dsk→List Opx→Option Dsk
 |d,[]=>some d
 |d,o::r=>(opD d o).bind fun d'=>Zt d' r
theorem Qs (d:Dsk)(a b:List Opx):Zt d (a++b)=(Zt d a).bind fun d'=>Zt d' b:=by
 induction a generalizing d with
 |nil=>rfl
 |cons o r ih=>
  simp only[oD,Zt]
  cases opD d o with
  |none=>rfl
  |some d'=>exact ih d'
theorem Uh (d:Dsk)(os:List Opx)(k:Nat)(h:k<os.length):Zt d (os.take (k+1))=(Zt d (os.take k)).bind fun d'=>opD d' (os.getD k Opx.zero):=by
 have e:os.getD k Opx.zero=os[k]:=by simp[h]
 rw[oy h,Qs,e];congr 1;funext d';simp only[Zt]
 cases opD d' os[k]<;>rfl
theorem fU (d:Dsk)(os:List Opx)(k:Nat)(h:Zt d (os.take k)=none):Zt d os=none:=by
 have:=Qs d (os.take k) (os.drop k);rw[si,h] at this;exact this
def Zk (os:List Opx) (limit:Int):List Opx:=if limit<0∨(os.length:Int)≤limit then os else os.take limit.toNat
def doD (d:Dsk) (os:List Opx) (limit:Int):Dsk:=
 if qC d=true∧os.length≤4000 then(Zt d (Zk os limit)).getD Dsk.none else Dsk.none
theorem jN.take {ao:Option Addr}{cap:Nat}{os:List Opx}(h:jN w lo hi (zj ao os.length cap) os)(n:Nat)(l:n≤os.length:=by omega):jN w lo hi (zj ao n cap) (os.take n):=by
 obtain⟨f,d,e,k,j,h⟩:=h
 cases e
 have a:(os.take n).length=n:=by rw[mW];omega
 refine⟨ao,cap,by rw[a],zk,zk,?_⟩;rcases h with h|⟨b,c,g,h1,h2,h3⟩
 ·left;rw[h];simp
 ·refine Or.inr ⟨b,c,g,h1,h2,fun i hi=>?_⟩;rw[a] at hi;have e:(os.take n).getD i Opx.zero=os.getD i Opx.zero:=by
   simp only[mV,oA];rw[mM hi]
  rw[e];exact h3 i zk
theorem VF (w:World){os:List Opx}(a:Int)(h:jN w lo hi v os):
  Calls Tryz.prog 29 #[v,za a] w fun e w'=> ∃k,e= .returned k∧jN w lo hi k (Zk os a)∧w'=w:=by
 have f:=h;obtain⟨i,cap,rfl,m,l,h⟩:=h;by_cases h1:a<0
 ·have g:Hid (jN w lo hi (zj i os.length cap) (Zk os a)):=by show jN _ _ _ _ _;unfold Zk;rw[mM (Or.inl h1)];exact f
  clear f h;go_enter Tryz.func29,Tryz.ntmps29;go_wp2;go_ret;exact⟨_,rfl,g,rfl⟩
 ·by_cases h2:(os.length:Int)≤a
  ·have g:Hid (jN w lo hi (zj i os.length cap) (Zk os a)):=by show jN _ _ _ _ _;unfold Zk;rw[mM (Or.inr h2)];exact f
   have d:a≥ (os.length:Int):=h2;clear f h;go_enter Tryz.func29,Tryz.ntmps29;go_wp2;go_ret;exact⟨_,rfl,g,rfl⟩
  ·obtain⟨n,rfl⟩: ∃n:Nat,a=(n:Int):=⟨a.toNat,zk⟩;have g:Hid (jN w lo hi (zj i n cap) (Zk os n)):=by show jN _ _ _ _ _;unfold Zk;rw[mN zk];exact f.take n
   have d: ¬(n:Int)≥ (os.length:Int):=zk;obtain⟨b,c,rfl⟩: ∃b c,i=some ⟨b,c,none⟩:=by
    rcases h with h|⟨b,c,e,_⟩
    ·rw[h] at d;simp at d
    ·exact⟨b,c,e⟩
   have j: ¬cap<n:=zk;clear f h;go_enter Tryz.func29,Tryz.ntmps29;go_wp2;go_ret;exact⟨_,rfl,g,rfl⟩
theorem JD (w:World){lo2 hi2:Nat}{ov:Value}{d:Dsk}{os:List Opx}(c:Int)(h1:Zw w lo hi v d)(ho:jN w lo2 hi2 ov os)(ak:hi2≤w.heap.size):
  Calls Tryz.prog 9 #[v,ov,za c] w fun e w'=> ∃v,e= .returned v∧qK w' w.heap.size w'.heap.size 100 5 v (doD d os c)∧zr 0 0 w w':=by
 have d0:=h1;have o0:=ho;obtain⟨P,pv,rfl,v1,p1⟩:=h1;obtain⟨ao,cap,rfl,_,_,_⟩:=v1;obtain⟨po,B,rfl,_,_,_⟩:=p1;obtain⟨oo,ah,rfl,_,_,_⟩:=ho;obtain⟨z1,z2,z3⟩:=zU w (zi #[zj ao d.dR.length cap,zj po d.pN.length B] 26) (zi #[zc,zc] 26);have W:zr 0 0 w ((w.alloc (zi #[zj ao d.dR.length cap,zj po d.pN.length B] 26)).alloc (zi #[zc,zc] 26)):=(zr.al w).alloc _;have dA:=d0.chg W zk;go_enter Tryz.func9,Tryz.ntmps9
 go_wp2_with fail;generalize (w.alloc (zi #[zj ao d.dR.length cap,zj po d.pN.length B] 26)).alloc (zi #[zc,zc] 26)=wa at*
 cases hV:qC d with
 |false=>
  refine(Q2 _ dA hV).mono ?_;rintro e wb ⟨rfl,E⟩;have sb:=E.size;have C:=(E.bk (w.heap.size+1)).trans z3;obtain⟨y0,y1,N,O⟩:=zw C;have J:=W.trans E;have HC:Hid (zr 0 0 w ((wb.setCell (zd (w.heap.size+1)) (zc)).setCell ⟨w.heap.size+1,1,none⟩ (zc))):=J.step (zr.set2 _ _ _ _);have L:Hid (doD d os c=Dsk.none):=by show _=_;unfold doD;rw[mN (by rw[hV];simp)]
  clear W E z2 z3 dA C J d0 o0 hV;go_wp2;refine mU (v:= .agg #[zc,zc]) (by simp[results,Tryz.results9,go_sem,y0,y1]) rfl ⟨_,rfl,?_,HC.out⟩;rw[L.out];exact qK.none _ _ _ _ _
 |true=>
  have K:=(Qi d).1 hV;refine(ZV _ dA K).mono ?_;rintro e wb ⟨p,rfl,g,E⟩;have sb:=E.size;have C:=(E.bk (w.heap.size+1)).trans z3;have J:=W.trans E;clear W E z2 z3 dA d0 K;by_cases h4:os.length≤4000
  ·have X:doD d os c=(Zt d (Zk os c)).getD Dsk.none:=by unfold doD;rw[mM ⟨hV,h4⟩]
   have HD:Hid (doD d os c=(Zt d (Zk os c)).getD Dsk.none):=X;have oB:=o0.chg J zk;clear X hV o0;go_wp2_with fail;refine(VF _ c oB).mono ?_;rintro e wc ⟨fv,rfl,fo,rfl⟩;obtain⟨fs,M⟩: ∃fs,Zk os c=fs:=⟨_,rfl⟩;rw[M] at fo;have T:Hid (Zk os c=fs):=M;have aa:Hid (jN wc lo2 hi2 fv fs):=fo;clear M oB;obtain⟨ab,ac,rfl,aj,_,_⟩:=fo;have I:Hid (Dev wc wa.heap.size p d):=g;have HB:Hid (zr 0 0 w wc):=J;have R:Hid (wc.heap[w.heap.size+1]?=some (zi #[zc,zc] 26)):=C
   clear g J C;go_wp2;go_loopw [28] (fun i wr=> ∃(k:Nat) (dk:Dsk),k≤fs.length∧i=za k∧Zt d (fs.take k)=some dk∧Dev wr wa.heap.size p dk∧zr 0 0 w wr∧zr wa.heap.size wc.heap.size wc wr∧wr.heap[w.heap.size+1]?=some (zi #[zc,zc] 26)) (fun i _=>fs.length-(intOf i).toNat)
   case atStart=>exact⟨0,d,mX _,rfl,rfl,I,HB,zr.refl _ _ _,R⟩
   case round=>
    obtain⟨k,dk,hk,rfl,j,g,G,f,l⟩:=hrel;clear I HB R;by_cases H:k<fs.length
    ·have hi':(k:Int)<(fs.length:Int):=zk;obtain⟨fb,ad,rfl,ae,af,x⟩: ∃b n,ab=some ⟨b,n,none⟩∧lo2≤b∧b<hi2∧ ∀i,i<fs.length→ ∃P,wc.cell? ⟨b,n+i*3,none⟩=some (za (fs.getD i Opx.zero).1)∧wc.cell? ⟨b,n+i*3+1,none⟩=some (za (fs.getD i Opx.zero).2.1)∧wc.cell? ⟨b,n+i*3+2,none⟩=some P∧zC wc lo2 hi2 .u8 P (fs.getD i Opx.zero).2.2:=by
      obtain⟨_,_,e,_,_,h⟩:=aa.out
      cases e
      rcases h with h|⟨b,n,e,h1,h2,h3⟩
      ·rw[h] at H;simp at H
      ·cases e;exact⟨b,n,rfl,h1,h2,h3⟩
     obtain⟨P,D,c2,c3,vw⟩:=x k H;have HS:Hid (Zt d (fs.take (k+1))=(Zt d (fs.take k)).bind fun V=>opD V (fs.getD k Opx.zero)):=Uh d fs k H;have D:=f.cell D;have c2:=f.cell c2;have c3:=f.cell c3;have vw:=vw.chg f zk;have HR:Hid (Zt d (fs.take (k+1))=opD dk (fs.getD k Opx.zero)):=by show _=_;rw[HS.out,j];rfl
     generalize fs.getD k Opx.zero=o at*;obtain⟨q,a,ys⟩:=o;simp only at D c2 c3 vw;have C1:zr 0 0 wr (wr.alloc (zi #[za q,za a,P] 71)):=zr.al wr;have X:=gW _ q a ys (g.chg0 C1) (vw.chg C1 zk) (zk:hi2≤wa.heap.size);have r:Hid (zr 0 0 w wr):=G;have s:Hid (zr wa.heap.size wc.heap.size wc wr):=f;have m:Hid (wr.heap[w.heap.size+1]?=some (zi #[zc,zc] 26)):=l;have S:Hid (zr 0 0 wr (wr.alloc (zi #[za q,za a,P] 71))):=C1
     obtain⟨vo,vc,rfl,_,_,_⟩:=vw;clear x HS G f l C1 g j;go_wp2_with fail;refine X.mono ?_;rintro e Q ⟨b,rfl,hc,hr⟩;have F:zr wa.heap.size wr.heap.size wr Q:=S.into hc;have HCH':Hid (zr 0 0 w Q):=r.step F (Or.inr (Or.inl zk));have HCH2':Hid (zr wa.heap.size wc.heap.size wc Q):=s.onto F;have hwr:=s.size;have B2:=(F.bk (w.heap.size+1)).trans m;clear X r s S hc F D c2 c3;rcases hr with⟨rfl,V,z,y⟩|⟨rfl,z⟩
     ·have HB2:Hid (Q.heap[w.heap.size+1]?=some (zi #[zc,zc] 26)):=B2;have HDV:Hid (Dev Q wa.heap.size p V):=y;have HRN:Hid (Zt d (fs.take (k+1))=some V):=by show _=_;rw[HR.out];exact z
      clear B2 y z HR m;go_wp2;go_roundw
      case rel=>exact⟨k+1,V,zk,by go_num,HRN.out,HDV.out,HCH'.out,HCH2'.out,HB2.out⟩
      case measure=>simp[intOf];omega
     ·have L:Hid (doD d os c=Dsk.none):=by
       show _=_;rw[HD.out,T.out,fU d fs (k+1) (by rw[HR.out];exact z)];rfl
      obtain⟨y0,y1,N,O⟩:=zw B2;have HC:Hid (zr 0 0 w ((Q.setCell (zd (w.heap.size+1)) (zc)).setCell ⟨w.heap.size+1,1,none⟩ (zc))):=HCH'.step (zr.set2 _ _ _ _);clear z HR m B2 HCH' HCH2';go_wp2;refine mU (v:= .agg #[zc,zc]) (by simp[results,Tryz.results9,go_sem,y0,y1]) rfl ⟨_,rfl,?_,HC.out⟩;rw[L.out];exact qK.none _ _ _ _ _
    ·obtain rfl:k=fs.length:=zk;rw[nV] at j;have L:Hid (doD d os c=dk):=by show _=_;rw[HD.out,T.out,j];rfl
     have hK:=bE _ g;have m:Hid (wr.heap[w.heap.size+1]?=some (zi #[zc,zc] 26)):=l;have r:Hid (zr 0 0 w wr):=G;have ag:=f.size;clear l G f g j;go_wp2_with fail;refine hK.mono ?_;rintro e wd ⟨v,rfl,od,hd⟩;have sd:=hd.size;have C:=(hd.bk (w.heap.size+1)).trans m;obtain⟨y0,y1,N,O⟩:=zw C;have Y:=r.trans hd;obtain⟨U,Z,D,t,A,u,rfl⟩:=od.agg;have HC:Hid (zr 0 0 w ((wd.setCell (zd (w.heap.size+1)) (zj U Z D)).setCell ⟨w.heap.size+1,1,none⟩ (zj t A u))):=Y.step (zr.set2 _ _ _ _)
     have HO:Hid (qK ((wd.setCell (zd (w.heap.size+1)) (zj U Z D)).setCell ⟨w.heap.size+1,1,none⟩ (zj t A u)) wr.heap.size wd.heap.size 100 5 (.agg #[zj U Z D,zj t A u]) dk):=od.chg (zr.set2 _ _ _ _) zk;have HS:Hid (((wd.setCell (zd (w.heap.size+1)) (zj U Z D)).setCell ⟨w.heap.size+1,1,none⟩ (zj t A u)).heap.size=wd.heap.size):=by show _=_;simp[World.setCell]
     have HZ:Hid (w.heap.size≤wr.heap.size):=by show _≤_;omega
     clear hK hd Y od C m r;go_wp2;refine mU (v:= .agg #[zj U Z D,zj t A u]) (by simp[results,Tryz.results9,go_sem,y0,y1]) rfl ⟨_,rfl,?_,HC.out⟩;rw[L.out,HS.out];exact HO.lower HZ
  ·have L:Hid (doD d os c=Dsk.none):=by show _=_;unfold doD;rw[mN (fun h=>h4 h.2)]
   obtain⟨y0,y1,N,O⟩:=zw C;have HC:Hid (zr 0 0 w ((wb.setCell (zd (w.heap.size+1)) (zc)).setCell ⟨w.heap.size+1,1,none⟩ (zc))):=J.step (zr.set2 _ _ _ _);have ai:(os.length:Int)>4000:=zk;clear C J o0 hV g h4;go_wp2;refine mU (v:= .agg #[zc,zc]) (by simp[results,Tryz.results9,go_sem,y0,y1]) rfl ⟨_,rfl,?_,HC.out⟩;rw[L.out];exact qK.none _ _ _ _ _
theorem K9 (w:World){d:Dsk}(h1:Zw w lo hi a d):
  Calls Tryz.prog 5 #[a] w fun e w'=> ∃v,e= .returned v∧qK w' w.heap.size w'.heap.size 100 5 v (X0 d)∧zr 0 0 w w':=by
 have B:=h1;obtain⟨N,O,rfl,M,L⟩:=h1;obtain⟨A,cap,rfl,_,_,_⟩:=M;obtain⟨D,h,rfl,_,_,_⟩:=L;obtain⟨T,J,y⟩:=zU w (zi #[zj A d.dR.length cap,zj D d.pN.length h] 26) (zi #[zc,zc] 26);have o:zr 0 0 w ((w.alloc (zi #[zj A d.dR.length cap,zj D d.pN.length h] 26)).alloc (zi #[zc,zc] 26)):=(zr.al w).alloc _;have t:=B.chg o zk;go_enter Tryz.func5,Tryz.ntmps5;go_wp2_with fail;generalize (w.alloc (zi #[zj A d.dR.length cap,zj D d.pN.length h] 26)).alloc (zi #[zc,zc] 26)=S at*
 cases hV:qC d with
 |false=>
  refine(Q2 _ t hV).mono ?_;rintro e I ⟨rfl,k⟩;have i:=(k.bk (w.heap.size+1)).trans y;obtain⟨y0,y1,E,F⟩:=zw i;have q:=o.trans k;have HC:Hid (zr 0 0 w ((I.setCell (zd (w.heap.size+1)) (zc)).setCell ⟨w.heap.size+1,1,none⟩ (zc))):=q.step (zr.set2 _ _ _ _);have z:Hid (X0 d=Dsk.none):=by show _=_;unfold X0;rw[mN (by rw[hV];simp)]
  clear o k J y t i q B hV;go_wp2;refine mU (v:= .agg #[zc,zc]) (by simp[results,Tryz.results5,go_sem,y0,y1]) rfl ⟨_,rfl,?_,HC.out⟩;rw[z.out];exact qK.none _ _ _ _ _
 |true=>
  have j:=(Qi d).1 hV;have z:Hid (X0 d=setD (fun _=>true) d):=by show _=_;unfold X0;rw[mM hV]
  refine(ZV _ t j).mono ?_;rintro e I ⟨p,rfl,l,k⟩;have P:=k.size;have i:=(k.bk (w.heap.size+1)).trans y;have q:=o.trans k;clear o k J y t B hV j;go_wp2_with fail;refine(KB _ l).mono ?_;rintro e wc ⟨rfl,f,u⟩;have Q:=u.size;have i:=(u.bk (w.heap.size+1)).trans i;have G:zr 0 0 w wc:=q.step u;clear u q l;go_wp2_with fail;refine(VC _ f rfl).mono ?_;rintro e s ⟨v,rfl,C,x⟩;have R:=x.size;have i:=(x.bk (w.heap.size+1)).trans i
  obtain⟨y0,y1,E,F⟩:=zw i;have H:=G.trans x;obtain⟨m,r,n,b,g,c,rfl⟩:=C.agg;have HC:Hid (zr 0 0 w ((s.setCell (zd (w.heap.size+1)) (zj m r n)).setCell ⟨w.heap.size+1,1,none⟩ (zj b g c))):=H.step (zr.set2 _ _ _ _);have K:Hid (qK ((s.setCell (zd (w.heap.size+1)) (zj m r n)).setCell ⟨w.heap.size+1,1,none⟩ (zj b g c)) wc.heap.size s.heap.size 100 5 (.agg #[zj m r n,zj b g c]) (setD (fun _=>true) d)):=C.chg (zr.set2 _ _ _ _) zk
  have HS:Hid (((s.setCell (zd (w.heap.size+1)) (zj m r n)).setCell ⟨w.heap.size+1,1,none⟩ (zj b g c)).heap.size=s.heap.size):=by show _=_;simp[World.setCell]
  clear x G H C i f;go_wp2;refine mU (v:= .agg #[zj m r n,zj b g c]) (by simp[results,Tryz.results5,go_sem,y0,y1]) rfl ⟨_,rfl,?_,HC.out⟩;rw[z.out,HS.out];exact K.lower zk
theorem Dev.chg {base:Nat}{d:Dsk}(h:Dev w base p d)(c:zr l r w w')(e:r≤l):Dev w' base p d:=by
 obtain⟨k,x,j,u,m,q,i⟩:=h;have K: ∀ {b:Nat} {o:Obj},w.heap[b]?=some o→w'.heap[b]?=some o:=fun a=>(c.bk _ (zE a)).trans a;have R: ∀ {t:TypeId} {sz:Nat} {v:Value} {n:Nat} {xs:List Value},w.ownsRow base t sz v n xs→w'.ownsRow base t sz v n xs:=by
  intro t sz v n xs h;refine⟨h.1,?_⟩;rcases h.2 with h2|⟨g,cap,f,j,s,a,r⟩
  ·exact Or.inl h2
  ·exact Or.inr ⟨g,cap,f,j,s,K a,r⟩
 exact⟨k,x,j,u,K m,R q,R i⟩
def kp (keep:List Int) (i:Nat):Bool:=decide (i<keep.length)&& (keep.getD i 0 !=0)
theorem iH (h:w.heap[s]?=some (zi #[a] t)):w.cell? (zd s)=some a:=by simp[World.cell?,h]
theorem E1 (w:World){B:Nat}(a:List Int)(i:Nat)(l:w.heap[B]?=some (zi #[kv] 33))(m:zC w lo hi .i64 kv a):
  Calls Tryz.prog 86 #[za i,zh B] w fun e w'=>e= .returned (.bool (kp a i))∧w'=w:=by
 have o:=iH l;obtain⟨n,r,rfl,q,_,d⟩:=m;clear l;by_cases h1:i<a.length
 ·obtain⟨f,b,rfl,c⟩: ∃f b,n=some ⟨f,b,none⟩∧ ∀i,i<a.length→w.cell? ⟨f,b+i,none⟩=some (za (a.getD i 0)):=by
   rcases d with e|⟨f,b,e,_,_,h⟩
   ·rw[e] at h1;simp at h1
   ·exact⟨f,b,e,h⟩
  have p:=c i h1;have g:Hid (kp a i=(a.getD i 0 !=0)):=by show _=_;simp[kp,h1]
  have k:(i:Int)<(a.length:Int):=zk;have j:decide ((i:Int)<(a.length:Int))=true:=by simpa using k
  clear d c;generalize a.getD i 0=x at*;go_enter Tryz.func86,Tryz.ntmps86;go_wp2;go_ret;exact⟨by rw[g.out];rfl,rfl⟩
 ·have g:Hid (kp a i=false):=by show _=_;simp[kp];intro h;omega
  have j:decide ((i:Int)<(a.length:Int))=false:=by simp;omega
  clear d;go_enter Tryz.func86,Tryz.ntmps86;go_wp2;go_ret;exact⟨by rw[g.out];rfl,rfl⟩
theorem Nu (w:World){base B:Nat}{d:Dsk}(keep:List Int)(h:Dev w base p d)(T:w.heap[B]?=some (zi #[kv] 33))(ab:zC w lo hi .i64 kv keep)(aB:hi≤base):
  Calls Tryz.prog 55 #[zh p,.func (.func 86) #[] #[zh B]] w fun e w'=>e= .returned (.tuple #[])∧Dev w' base p (setD (kp keep) d)∧zr base w.heap.size w w':=by
 obtain⟨gD,po,cap,hv,hp,Z,a,m,A⟩:=h.pend_ne;have ad:p<w.heap.size:=(zE a);have aq:gD<w.heap.size:=(zE m);have au:p≠gD:=by
  intro e;rw[e,m] at a;simp only[nS,oK] at a;exact absurd a.2.1 zp
 have az:B≠gD:=by
  intro e;rw[e,m] at T;simp only[nS,oK] at T;exact absurd T.2.1 zp
 have hm:=hv.2.2.2.1;have hn:=hv.2.2.1;obtain⟨b0,b1,_,_⟩:=zw a;have HP:Hid (∀k,k<d.pN.length→ ∃J,po=some (zd J)∧J≠gD∧J<w.heap.size∧w.rangeAt J (k*65) (j9 (d.pN.getD k (0,[])))):=A;have R:Hid (qL d):=hv;have H:Hid (w.heap[gD]?=some (zi (d.dR.map (Value.int .u8)).toArray 78)):=m;have G:Hid (w.heap[p]?=some (zi #[zg gD (d.dR.length/64) (d.dR.length/64),zj po d.pN.length cap] 99)):=a;have ap:B<w.heap.size:=(zE T)
 have HB:Hid (w.heap[B]?=some (zi #[kv] 33)):=T;have HK:Hid (zC w lo hi .i64 kv keep):=ab;clear A m a h hv T ab;go_enter Tryz.func55,Tryz.ntmps55;go_wp2;go_loopw [11] (fun i wr=> ∃k:Nat,k≤d.pN.length∧i=za k∧zr gD (gD+1) w wr∧wr.heap[gD]?=some (zi ((stl (kp keep) d.pN d.dR k).map (Value.int .u8)).toArray 78)) (fun i _=>d.pN.length-(intOf i).toNat)
 case atStart=>exact⟨0,mX _,rfl,zr.refl _ _ _,H⟩
 case round=>
  obtain⟨k,hk,rfl,g,K⟩:=hrel;have sz:=g.size;have y0:=g.cell b0;have y1:=g.cell b1;have u:Hid (wr.heap[gD]?=some (zi ((stl (kp keep) d.pN d.dR k).map (Value.int .u8)).toArray 78)):=K;clear K;by_cases ac:k<d.pN.length
  ·obtain⟨J,rfl,aC,aw,O⟩:=HP.out k ac;obtain⟨ae,av,C⟩:=R.2.2.2.2 k ac;have b:=aH (kp keep) d.pN d.dR k;have s:=kh (kp keep) d.pN d.dR k;have z:=j7 (kp keep) d R k hk;generalize d.pN.getD k (0,[])=pr at*;obtain⟨q,xs⟩:=pr;simp only at ae av C b s;obtain⟨qn,rfl⟩:=tF ae;rw[Int.toNat_natCast] at b;obtain⟨cs,y⟩: ∃cs,cs=xs.map (Value.int .u8):=⟨_,rfl⟩;rw[←y] at b;obtain⟨full,r⟩: ∃full,full=j9 ((qn:Int),xs):=⟨_,rfl⟩
   rw[←r] at O;have F:full=Value.int .i64 qn::cs:=by rw[r,y];rfl
   have I:cs.length=64:=by rw[y];simpa using C
   have N: ∀v∈cs,v.oneCell'=true:=by rw[y];exact nf _ _
   have L3:full.length=65:=by rw[F,m7,I]
   have L4: ∀v∈full,v.oneCell'=true:=by
    intro v hv;rw[F] at hv;rcases oJ.1 hv with rfl|hv
    ·rfl
    ·exact N v hv
   have R0:wr.rangeAt J (k*65) full:=fun j v U=>g.cell (O j v U);have W:Hid (wr.rangeAt J (k*65) full):=R0;have al:Hid (cs.length=64):=I;have am:Hid (∀v∈cs,v.oneCell'=true):=N;have an:Hid (full.length=65):=L3;have ao:Hid (∀v∈full,v.oneCell'=true):=L4;have D:Hid (full=Value.int .i64 qn::cs):=F;have n:Hid (kp keep k=false→stl (kp keep) d.pN d.dR (k+1)=stl (kp keep) d.pN d.dR k):=s;have o:Hid (kp keep k=true→splice ((stl (kp keep) d.pN d.dR k).map (Value.int .u8)) (qn*64) cs=(stl (kp keep) d.pN d.dR (k+1)).map (Value.int .u8)):=b
   have E:Hid ((stl (kp keep) d.pN d.dR k).length=d.dR.length):=z;have X:Hid (full.toArray.size=65):=by show _=_;simpa using L3
   have ak:=Tryz.underlying102;have ai:Hid ((Tryz.prog.info? 102).map (·.size)=some full.toArray.size):=by show _=_;rw[X.out];kernel_rfl
   have L:Hid ((Tryz.prog.info? 102).map (·.size)=some full.length):=by show _=_;rw[L3];kernel_rfl
   have ax:=R.1;clear O y r F I N L3 L4 R0 b s z C;have aA:(k:Int)<(d.pN.length:Int):=zk;go_wp2_with (first
    |(refine nO rfl 102 (.tmp 14) rfl J (k*65) rfl full _ W ak rfl L.out ?_)
    |(refine rQ rfl 102 (.tmp 5) (.tmp 15) rfl wr.heap.size 0 full.toArray rfl rfl (by rw[X.out];exact Ju wr _ _ 65 rfl) ai.out (rR ao) ?_))
   obtain⟨F1,F2⟩:=filled (w:=wr) (c:=Tryz.zeroCells102) (t:=102) (full:=full) (by rw[an.out];rfl);generalize (wr.alloc (zi Tryz.zeroCells102 102)).setCells wr.heap.size 0 full=x at*;have m0:x.cell? (zd wr.heap.size)=some (za qn):=by
    rw[pe x wr.heap.size 0 _ _ _ F1,D.out];simp
   have R7:x.rangeAt wr.heap.size 1 cs:=by
    intro j v U;rw[pe x wr.heap.size (1+j) _ _ _ F1,D.out,ru];simpa using U
   have l:x.heap[gD]?=some (zi ((stl (kp keep) d.pN d.dR k).map (Value.int .u8)).toArray 78):=(F2.bk gD).trans u;have S:x.there gD (qn*64) 64:=by
    intro j U;constructor
    ·rw[World.cell?,l];simp;rw[E.out];omega
    ·rw[World.frozen?,l];simp
   have y7:=F2.cell y0;have Q:zr gD (gD+1) w x:=g.step F2;have Y:=(Q.bk B ap).trans HB;have aa:=HK.chg Q zk;have f:Hid (x.heap[gD]?=some (zi ((stl (kp keep) d.pN d.dR k).map (Value.int .u8)).toArray 78)):=l;have ar:wr.heap.size≠gD:=zk;have aD:(qn:Int)<(d.dR.length:Int)/64:=zk;have aE:qn<d.dR.length/64:=zk;have aj:=Tryz.underlying78;have I:=al.out;have N:=am.out;have ah:(Tryz.prog.info? 78).map (·.size)=some cs.length:=by rw[I];kernel_rfl
   have af:(storeCells ⟨gD,qn*64,none⟩ cs).run Tryz.prog x.drew= .ok () (x.drew.setCells gD (qn*64) cs):=by
    have:=sK (P:=Tryz.prog) gD (qn*64) cs 0 x.drew (fun j U=>by simpa using (S j zk).1) (fun j U=>by simpa using (S j zk).2) N;simpa using this
   clear F1 F2 l u W y0 y1 g ak ai L;refine(E1 x keep k Y aa).mono ?_;rintro e M ⟨rfl,rfl⟩;clear Y aa
   cases hK:kp keep k with
   |false=>
    have R1:=Q;have R2:Hid (M.heap[gD]?=some (zi ((stl (kp keep) d.pN d.dR (k+1)).map (Value.int .u8)).toArray 78)):=by
     rw[n.out hK];exact f
    clear af aj ah I N R7 S m0 y7 Q f o n D E hK;go_wp2;go_roundw
    case rel=>exact⟨k+1,zk,by go_num,R1,R2.out⟩
    case measure=>simp[intOf];omega
   |true=>
    go_wp2;go_region_held3 (fun w'=>w'.cell? (zd p)=some (zg gD (d.dR.length/64) (d.dR.length/64))∧w'.cell? (zd wr.heap.size)=some (za qn)∧w'.rangeAt wr.heap.size 1 cs∧w'.there gD (qn*64) 64)
     (first|exact⟨y7,m0,R7,S⟩|exact⟨(zr.setCells gD _ _ M.drew).cell y7,(zr.setCells gD _ _ M.drew).cell m0,World.rangeAt_setCells_apart (w:=M.drew) R7 _ _ _ (Or.inl ar),tE (w:=M.drew) S _ _ _⟩) (fail)
    have R1:Hid (zr gD (gD+1) w (M.drew.setCells gD (qn*64) cs)):=Q.drew.trans (zr.setCells gD _ _ _);have R2:Hid ((M.drew.setCells gD (qn*64) cs).heap[gD]?=some (zi ((stl (kp keep) d.pN d.dR (k+1)).map (Value.int .u8)).toArray 78)):=by
     have:=jr gD 78 cs (qn*64) M.drew _ f (by rw[mO,E.out,I];omega);rw[o.out hK] at this;exact this
    clear af aj ah I N R7 S m0 y7 Q f o n D E;go_wp2;go_roundw
    case rel=>exact⟨k+1,zk,by go_num,R1.out,R2.out⟩
    case measure=>simp[intOf];omega
  ·obtain rfl:k=d.pN.length:=zk;have G1:wr.heap[p]?=_:=(g.bk p ad).trans G;obtain⟨z0,z1,aF,aG⟩:=zw G1;have ag:=JP (kp keep) R;have V:=j7 (kp keep) d R d.pN.length nlR;have G2:(wr.setCell ⟨p,1,none⟩ (zc)).heap[p]?=some (zi #[zg gD (d.dR.length/64) (d.dR.length/64),zc] 99):=by
    have:=oP wr p 1 _ _ (zc) G1;simpa using this
   have G3:(wr.setCell ⟨p,1,none⟩ (zc)).heap[gD]?=some (zi ((stl (kp keep) d.pN d.dR d.pN.length).map (Value.int .u8)).toArray 78):=(nY _ _ _ _ (fun e=>au e.symm)).trans u;have HD:Hid (Dev (wr.setCell ⟨p,1,none⟩ (zc)) base p (setD (kp keep) d)):=by
    refine⟨gD,zc,ag,hp,by rw[show(setD (kp keep) d).dR.length=d.dR.length from V];exact G2,?_,rG _ _ _ _⟩;rw[show(setD (kp keep) d).dR.length=d.dR.length from V];have ay:=R.1;refine⟨by rw[mO];show(stl _ _ _ _).length=_;rw[V];omega,Or.inr ⟨gD,_,_,rfl,Z,G3,mP _,by unfold maxLen;omega,by simp[V];omega,?_⟩⟩;rw[ny (by simp[V];omega)];rfl
   have HC:Hid (zr base w.heap.size w (wr.setCell ⟨p,1,none⟩ (zc))):=(g.widen (Or.inl Z) (Or.inl aq)).setCell (Or.inl ⟨hp,ad⟩) _;clear G1 G2 G3 ag V g u HP G H y0 y1;go_wp2;go_end0;exact⟨rfl,HD,HC⟩
def Qb (d:Dsk) (keep:List Int):Dsk:=if qC d=true∧keep.length≤600 then setD (kp keep) d else Dsk.none
theorem NR (w:World){base:Nat}{d:Dsk}(a:List Int)(h:Dev w base p d)(j:zC w lo hi .i64 kv a)(m:hi≤base:=by omega):
  Calls Tryz.prog 43 #[zh p,kv] w fun e w'=>e= .returned (.tuple #[])∧Dev w' base p (setD (kp a) d)∧zr base w.heap.size w w':=by
 have g:=j;obtain⟨l,b,rfl,_,_,_⟩:=j;have c:zr 0 0 w (w.alloc (zi #[zj l a.length b] 33)):=zr.al w;have n:=zt w (zi #[zj l a.length b] 33);have v:(w.alloc (zi #[zj l a.length b] 33)).heap.size=w.heap.size+1:=zn;have h0:=h.chg c zk;have i:=g.chg c zk;go_enter Tryz.func43,Tryz.ntmps43;go_wp2_with fail;generalize w.alloc (zi #[zj l a.length b] 33)=t at*;refine(Nu t a h0 n i m).mono ?_;rintro e q ⟨rfl,o,f⟩
 have s:Hid (Dev q base p (setD (kp a) d)):=o;have r:Hid (zr base w.heap.size w q):=⟨f.os.trans c.os,f.tape.trans c.tape,f.output.trans c.output,nz c.size f.size,fun k j u=>(f.bk k).trans (c.bk k j)⟩;clear o h h0 f g i n;go_wp2;go_end0;exact⟨rfl,s,r⟩
theorem K6 (w:World){d:Dsk}{klo khi:Nat}(b:List Int)(h1:Zw w lo hi a d)(O:zC w klo khi .i64 kv b)(P:khi≤w.heap.size):
  Calls Tryz.prog 17 #[a,kv] w fun e w'=> ∃v,e= .returned v∧qK w' w.heap.size w'.heap.size 100 5 v (Qb d b)∧zr 0 0 w w':=by
 have I:=h1;obtain⟨W,Y,rfl,V,U⟩:=h1;obtain⟨H,cap,rfl,_,_,_⟩:=V;obtain⟨K,l,rfl,_,_,_⟩:=U;have q:=O;obtain⟨X,Q,rfl,T,_,_⟩:=O;obtain⟨z1,R,G⟩:=zU w (zi #[zj H d.dR.length cap,zj K d.pN.length l] 26) (zi #[zc,zc] 26);have u:zr 0 0 w ((w.alloc (zi #[zj H d.dR.length cap,zj K d.pN.length l] 26)).alloc (zi #[zc,zc] 26)):=(zr.al w).alloc _;have D:=I.chg u zk;go_enter Tryz.func17,Tryz.ntmps17;go_wp2_with fail
 generalize (w.alloc (zi #[zj H d.dR.length cap,zj K d.pN.length l] 26)).alloc (zi #[zc,zc] 26)=wa at*
 cases hV:qC d with
 |false=>
  refine(Q2 _ D hV).mono ?_;rintro e L ⟨rfl,o⟩;have c:=(o.bk (w.heap.size+1)).trans G;obtain⟨y0,y1,B,C⟩:=zw c;have m:=u.trans o;have HC:Hid (zr 0 0 w ((L.setCell (zd (w.heap.size+1)) (zc)).setCell ⟨w.heap.size+1,1,none⟩ (zc))):=m.step (zr.set2 _ _ _ _);have r:Hid (Qb d b=Dsk.none):=by show _=_;unfold Qb;rw[mN (by rw[hV];simp)]
  clear u o R G D c m I hV;go_wp2;refine mU (v:= .agg #[zc,zc]) (by simp[results,Tryz.results17,go_sem,y0,y1]) rfl ⟨_,rfl,?_,HC.out⟩;rw[r.out];exact qK.none _ _ _ _ _
 |true=>
  have n:=(Qi d).1 hV;refine(ZV _ D n).mono ?_;rintro e L ⟨p,rfl,i,o⟩;have Z:=o.size;have c:=(o.bk (w.heap.size+1)).trans G;have m:=u.trans o;clear u o R G D I n;by_cases y:b.length≤600
  case neg=>
   have r:Hid (Qb d b=Dsk.none):=by show _=_;unfold Qb;rw[mN (fun h=>y h.2)]
   obtain⟨y0,y1,B,C⟩:=zw c;have HC:Hid (zr 0 0 w ((L.setCell (zd (w.heap.size+1)) (zc)).setCell ⟨w.heap.size+1,1,none⟩ (zc))):=m.step (zr.set2 _ _ _ _);clear c m hV i q;go_wp2;refine mU (v:= .agg #[zc,zc]) (by simp[results,Tryz.results17,go_sem,y0,y1]) rfl ⟨_,rfl,?_,HC.out⟩;rw[r.out];exact qK.none _ _ _ _ _
  have r:Hid (Qb d b=setD (kp b) d):=by show _=_;unfold Qb;rw[mM ⟨hV,y⟩]
  have x:=q.chg m zk;clear hV q;go_wp2_with fail;refine(NR _ b i x).mono ?_;rintro e wc ⟨rfl,j,E⟩;have sc:=E.size;have c:=(E.bk (w.heap.size+1)).trans c;have M:zr 0 0 w wc:=m.step E;clear E m i x;go_wp2_with fail;refine(VC _ j rfl).mono ?_;rintro e A ⟨v,rfl,J,F⟩;have sd:=F.size;have c:=(F.bk (w.heap.size+1)).trans c;obtain⟨y0,y1,B,C⟩:=zw c;have N:=M.trans F;obtain⟨s,z,t,f,k,g,rfl⟩:=J.agg;have HC:Hid (zr 0 0 w ((A.setCell (zd (w.heap.size+1)) (zj s z t)).setCell ⟨w.heap.size+1,1,none⟩ (zj f k g))):=N.step (zr.set2 _ _ _ _)
  have S:Hid (qK ((A.setCell (zd (w.heap.size+1)) (zj s z t)).setCell ⟨w.heap.size+1,1,none⟩ (zj f k g)) wc.heap.size A.heap.size 100 5 (.agg #[zj s z t,zj f k g]) (setD (kp b) d)):=J.chg (zr.set2 _ _ _ _) zk;have HS:Hid (((A.setCell (zd (w.heap.size+1)) (zj s z t)).setCell ⟨w.heap.size+1,1,none⟩ (zj f k g)).heap.size=A.heap.size):=by show _=_;simp[World.setCell]
  clear F M N J c j;go_wp2;refine mU (v:= .agg #[zj s z t,zj f k g]) (by simp[results,Tryz.results17,go_sem,y0,y1]) rfl ⟨_,rfl,?_,HC.out⟩;rw[r.out,HS.out];exact S.lower zk
theorem fA {d d':Dsk}{o:Opx}(h:opD d o=some d')(a:qL d):qL d':=by
 unfold opD at h;split at h
 ·split at h
  ·rename_i f;obtain⟨h1,h2,h3,c⟩:=f
   cases h
   obtain⟨g,j,k,m,l⟩:=a;refine⟨g,j,k,by simp;omega,fun i hi=>?_⟩;simp only[mL,m7,nH] at hi;by_cases e:i<d.pN.length
   ·have:=l i e;simpa only[mV,nZ e] using this
   ·obtain rfl:i=d.pN.length:=zk;have b:(d.pN++ [(o.2.1,o.2.2)]).getD d.pN.length (0,[])=(o.2.1,o.2.2):=zn;show Good (d.dR.length/64) ((d.pN++ [(o.2.1,o.2.2)]).getD d.pN.length (0,[]));rw[b];exact⟨h2,h3,c⟩
  ·cases h
 ·split at h
  ·split at h
   ·cases h
    exact JP _ a
   ·cases h
  ·cases h
theorem JM {os:List Opx}{d d':Dsk}(h:Zt d os=some d')(a:qL d):qL d':=by
 induction os generalizing d with
 |nil=>cases h;exact a
 |cons o r ih=>
  simp only[Zt] at h
  cases e:opD d o with
  |none=>rw[e] at h;cases h
  |some d1=>rw[e] at h;exact ih h (fA e a)
theorem XZ (os:List Opx):Zk os (-1)=os:=by unfold Zk;rw[mM zk]
theorem fe (os:List Opx)(k:Nat)(a:k≤os.length):Zk os (k:Int)=os.take k:=by
 unfold Zk;split
 ·rename_i h;obtain rfl:k=os.length:=zk;rw[nV]
 ·simp
theorem qL.fits {d:Dsk}(h:qL d):d.dR.length≤131072∧d.pN.length≤600∧ ∀i,i<d.pN.length→(d.pN.getD i (0,[])).2.length=64:=by
 obtain⟨h1,h2,h3,a,b⟩:=h;exact⟨zk,a,fun i hi=>(b i hi).2.2⟩
theorem qL.fit {d:Dsk}(h:qL d):d.Fits:=by
 obtain⟨h1,h2,h3⟩:=h.fits;exact⟨zk,zk,fun i hi=>by rw[h3 i hi];omega⟩
def blk (xs:List Int) (b:Nat):List Int:=(xs.drop (b*64)).take 64
def sld (K:Nat→Bool) (ps:List Wr) (b:Nat) (dflt:List Int):Nat→List Int
 |0=>dflt
 |k+1=>if(ps.getD k (0,[])).1=(b:Int)∧K k=true then(ps.getD k (0,[])).2 else sld K ps b dflt k
theorem ZG (xs ys:List Int)(a b:Nat)(c:ys.length=64)(f:a*64+64≤xs.length:=by omega):blk (splice xs (a*64) ys) b=if a=b then ys else blk xs b:=by
 unfold blk splice;split
 ·rename_i e;subst e;rw[List.drop_append_of_le_length (by rw[mW];omega),oZ (by rw[mW];omega),nG,oG zk,←c,nV]
 ·rename_i e;apply rC;intro i;simp only[oA,oQ];split
  ·rename_i hi;rcases ri b a with h|h
   ·rw[nZ (by rw[mW];omega),oA,mM zk]
   ·have d:((xs.take (a*64))++ys).length=a*64+64:=by rw[mL,mW,c];omega
    rw[←nk,oM (by rw[d];omega),d,oQ,c];congr 1;omega
  ·rfl
theorem EX (K:Nat→Bool)(d:Dsk)(a:qL d)(b:Nat): ∀k,k≤d.pN.length→blk (stl K d.pN d.dR k) b=sld K d.pN b (blk d.dR b) k
 |0,_=>rfl
 |k+1,hk=>by
  have ih:=EX K d a b k zk
  obtain⟨g,i,c⟩:=a.2.2.2.2 k zk
  have f:=j7 K d a k zk
  have j:=a.1
  show blk (if K k=true then splice (stl K d.pN d.dR k) ((d.pN.getD k (0,[])).1.toNat*64) (d.pN.getD k (0,[])).2 else stl K d.pN d.dR k) b=(if(d.pN.getD k (0,[])).1=(b:Int)∧K k=true then(d.pN.getD k (0,[])).2 else sld K d.pN b (blk d.dR b) k)
  by_cases hK:K k=true
  ·rw[mM hK,ZG _ _ _ _ c (by rw[f];omega),ih]
   by_cases e:(d.pN.getD k (0,[])).1=(b:Int)
   ·rw[mM zk,mM ⟨e,hK⟩]
   ·rw[mN zk,mN (fun h=>e h.1)]
  ·rw[mN hK,mN (fun h=>hK h.2),ih]
theorem dZ (ps:List Wr)(b:Nat)(a:List Int): ∀k,k≤ps.length→Qt (ps.take k) (b:Int) a=sld (fun _=>true) ps b a k
 |0,_=>rfl
 |k+1,hk=>by
  have ih:=dZ ps b a k zk
  have e:ps.getD k (0,[])=ps[k]:=by simp[show k<ps.length by omega]
  rw[oy zk,JN,ih]
  show _=(if(ps.getD k (0,[])).1=(b:Int)∧true=true then(ps.getD k (0,[])).2 else sld (fun _=>true) ps b a k)
  rw[e]
  simp[Qt]
theorem eZ :(Zi xs).take 4≠mg:=by
 unfold Zi;split
 ·simp[mg]
 ·assumption
theorem EP (h:xs.length=64):jx (Zi xs) (decide (xs.take 4=mg))=xs:=by
 have b:=jX h;by_cases a:xs.take 4=mg
 ·rw[mR a];have e:Zi xs= [0,0,0,0]++xs.drop 4:=by unfold Zi;rw[mM a]
  unfold jx Zp jA;rw[mM ⟨b,by rw[e];simp⟩,mM rfl,e,←a];simp
 ·rw[mY a];have e:Zi xs=xs:=by unfold Zi;rw[mN a]
  rw[e];unfold jx Zp jA;rw[mM ⟨h,by simp[a]⟩];simp
def zT:RS→List FB→RS
 |s,[]=>s
 |s,x::xs=>if(zJ s x).2=true then zT (zJ s x).1 xs else(zJ s x).1
def RS.txn (s:RS):Tx:=⟨s.seq,s.homes,s.rV⟩
def KZ (h:Wr):FB:= .raw (Zi h.2)
def Yp (q:Int) (hs:List Wr):List FB:= .des q (hs.map z9)::hs.map KZ
def QT (q:Int) (hs:List Wr) (rs:List Int):List FB:=(jW 26 rs).map (FB.rev q)++(jW 17 hs).flatMap (Yp q)
def NM (q:Int) (bs:List (List Int)):FB:= .com q bs.length (Zy bs.flatten)
def qx (t:Tx):List FB:=QT t.seq t.homes t.rV++ [NM t.seq (BL t.seq t.homes t.rV)]
theorem NC (t:Tx):qx t≠ []:=by unfold qx;simp
theorem NJ (q:Int)(hs:List Wr)(rs:List Int):(QT q hs rs).map FB.bs=BL q hs rs:=by
 unfold QT BL;have e: ∀c:List Wr,(Yp q c).map FB.bs=zW q c:=fun c=>by
  unfold Yp zW;rw[nR,oR];congr 1;show qk (zD 2 ((c.map z9).length:Int) q++zP (c.map z9))=Jw q c;rw[mO];rfl
 rw[m6,oR,List.map_flatMap,show(fun c:List Wr=>(Yp q c).map FB.bs)=zW q from funext e];rfl
theorem jQ {t:Tx}(h:qy t):(qx t).map FB.bs=TL t:=by
 unfold qx TL;rw[mM (qu h),m6,NJ];rfl
theorem dW (h:z8 xs xs.length):Vq xs:=⟨fun _ hi=>h.ahead hi,h.bound nlR⟩
theorem NL {α:Type}(a:0<n){xs c:List α}(h:c∈jW n xs):1≤c.length∧c.length≤n∧ ∃i,c=(xs.drop i).take n:=by
 unfold jW at h;obtain⟨i,hi,rfl⟩:=m9.1 h;have hi:=pq.1 hi;have h2:(i+1)*n≤xs.length+n-1:=(Nat.le_div_iff_mul_le a).1 hi;have h3:n*i+n=(i+1)*n:=by rw[Nat.add_mul,Nat.one_mul,ry]
 refine⟨?_,?_,_,rfl⟩
 ·rw[mW,m8];omega
 ·rw[mW];omega
theorem kJ {h:Wr}(b:h.2.length=64)(a:Byt h.2):(KZ h).ok:=⟨jX b,dB a,eZ⟩
theorem gN {hs:List Wr}{rs:List Int}(h:OkT q hs rs): ∀x∈QT q hs rs,x.ok:=by
 intro x hx;unfold QT at hx;rcases nu.1 hx with hx|hx
 ·obtain⟨c,a,rfl⟩:=m9.1 hx;obtain⟨h1,h2,i,rfl⟩:=NL zk a;exact⟨⟨h.q0,h.q1⟩,dW ((h.rev.drop i).take 26),h1,h2⟩
 ·obtain⟨c,a,hx⟩:=rE.1 hx;obtain⟨h1,h2,i,rfl⟩:=NL zk a;have b:=(h.dropH i).takeH 17;unfold Yp at hx;rcases oJ.1 hx with rfl|hx
  ·refine⟨⟨h.q0,h.q1⟩,?_,by rw[mO];exact h1,by rw[mO];exact h2⟩;have f:=EN b;have e:(List.map z9 ((hs.drop i).take 17)).map Prod.fst=(List.map z9 ((hs.drop i).take 17)).map (·.1):=rfl;rw[e];refine dW ?_;rw[mO];exact f
  ·obtain⟨y,d,rfl⟩:=m9.1 hx;exact kJ (b.data y d) (b.byt y d)
theorem QE {t:Tx}(h:qy t)(d: ∀x∈t.homes,Byt x.2): ∀x∈qx t,x.ok:=by
 have a:=OkT.of h d;intro x hx;unfold qx at hx;rcases nu.1 hx with hx|hx
 ·exact gN a x hx
 ·obtain rfl:=nx.1 hx;obtain⟨⟨_,e,f⟩,_⟩:=h;obtain⟨i,j⟩:=Ea 128 (q:=t.seq) (hs:=t.homes) (rs:=t.rV) zk a;have g:=bl (q:=t.seq) (hs:=t.homes) (rs:=t.rV);obtain⟨b,c⟩:=qP (BL t.seq t.homes t.rV).flatten;exact⟨⟨a.q0,a.q1⟩,⟨zk,zk⟩,b,c⟩
theorem Nn (hs:List Wr)(h: ∀x∈hs,x.2.length=64): ∀(s:RS) (ys:List FB),s.aw=hs.map z9→
  zT s (hs.map KZ++ys)=zT ⟨s.seen++hs.map (fun x=>Zi x.2),s.seq,s.homes++hs,s.rV,[]⟩ ys:=by
 induction hs with
 |nil=>intro s ys a;cases s;simp at a⊢;rw[a]
 |cons x r ih=>
  intro s ys a;have b:=EP (h x zn);have g:=jX (h x zn);have c:Zp (Zi x.2) (decide (x.2.take 4=mg))=true∧jA (Zi x.2) (decide (x.2.take 4=mg))=x.2:=by
   unfold jx at b;split at b
   ·rename_i d;exact⟨d.2,b⟩
   ·exact absurd (nI List.length b) (by rw[h x zn];simp)
  have e:zJ s (KZ x)=(⟨s.seen++ [Zi x.2],s.seq,s.homes++ [x],s.rV,r.map z9⟩,true):=by
   unfold zJ;rw[a,nR];simp only[z9,KZ,FB.bs];exact(mM c.1).trans (by rw[c.2])
  rw[nR,oD];show(if(zJ s (KZ x)).2=true then zT (zJ s (KZ x)).1 (r.map KZ++ys) else _)=_;rw[e,mM rfl,ih (fun y f=>h y (by simp[f])) _ ys rfl];simp
theorem fF {hs:List Wr}(h: ∀x∈hs,x.2.length=64)(s:RS)(ys:List FB)(a:s.aw= []):
  zT s (Yp q hs++ys)=zT ⟨s.seen++zW q hs,s.seq,s.homes++hs,s.rV,[]⟩ ys:=by
 unfold Yp;rw[oD];have e:zJ s (.des q (hs.map z9))=(⟨s.seen++ [Jw q hs],s.seq,s.homes,s.rV,hs.map z9⟩,true):=by
  unfold zJ;rw[a];show((⟨s.seen++ [qk (zD 2 ((hs.map z9).length:Int) q++zP (hs.map z9))],s.seq,s.homes,s.rV,hs.map z9⟩,true):RS×Bool)=_;rw[mO];rfl
 show(if(zJ s (.des q (hs.map z9))).2=true then zT (zJ s (.des q (hs.map z9))).1 (hs.map KZ++ys) else _)=_;rw[e,mM rfl,Nn hs h _ ys rfl];unfold zW;simp
theorem bZ (cs:List (List Wr))(h: ∀c∈cs,∀x∈c,x.2.length=64): ∀(s:RS) (ys:List FB),s.aw= []→
  zT s (cs.flatMap (Yp q)++ys)=zT ⟨s.seen++cs.flatMap (zW q),s.seq,s.homes++cs.flatten,s.rV,[]⟩ ys:=by
 induction cs with
 |nil=>intro s ys a;cases s;simp at a⊢;rw[a]
 |cons c r ih=>
  intro s ys a;rw[nX,nk,fF (h c zn) s _ a,ih (fun x b=>h x (by simp[b])) _ ys rfl];simp
theorem b8 (cs:List (List Int)): ∀(s:RS) (ys:List FB),s.aw= []→
  zT s (cs.map (FB.rev q)++ys)=zT ⟨s.seen++cs.map (Q4 q),s.seq,s.homes,s.rV++cs.flatten,[]⟩ ys:=by
 induction cs with
 |nil=>intro s ys a;cases s;simp at a⊢;rw[a]
 |cons c r ih=>
  intro s ys a;have e:zJ s (.rev q c)=(⟨s.seen++ [Q4 q c],s.seq,s.homes,s.rV++c,[]⟩,true):=by
   unfold zJ;rw[a];rfl
  rw[nR,oD];show(if(zJ s (.rev q c)).2=true then zT (zJ s (.rev q c)).1 (r.map (FB.rev q)++ys) else _)=_;rw[e,mM rfl,ih _ ys rfl];simp
theorem Zj {α:Type}(n:Nat)(a:0<n): ∀(k:Nat) (xs:List α),xs.length≤k→(jW n xs).flatten=xs:=by
 intro k
 induction k with
 |zero=>
  intro xs h;obtain rfl:xs= []:=nT zk;rw[Z9 n a];rfl
 |succ k ih=>
  intro xs h;by_cases h0:0<xs.length
  ·rw[Z8 n a h0,oC,ih _ (by rw[m8];omega),si]
  ·obtain rfl:xs= []:=nT zk;rw[Z9 n a];rfl
theorem Kb {t:Tx}(h:qy t)(d: ∀x∈t.homes,Byt x.2)(ys:List FB):zT RS.zero (qx t++ys)=⟨TL t,t.seq,t.homes,t.rV,[]⟩:=by
 have a:=OkT.of h d;unfold qx QT;rw[nk,nk,b8 _ _ _ rfl,bZ _ (fun c f x g=>a.data x (Jd f x g)) _ _ rfl];rw[Zj 26 zk _ _ nlR,Zj 17 zk _ _ nlR];have e: ∀s:RS,s.aw= []→zJ s (NM t.seq (BL t.seq t.homes t.rV))=(⟨s.seen++ [Vz t.seq (BL t.seq t.homes t.rV)],t.seq,s.homes,s.rV,[]⟩,false):=by
  intro s b;unfold zJ;rw[b];rfl
 rw[oD];show(if(zJ _ (NM t.seq (BL t.seq t.homes t.rV))).2=true then zT _ _ else(zJ _ (NM t.seq (BL t.seq t.homes t.rV))).1)=_;rw[e _ rfl,mN zn];unfold TL;rw[mM (qu h)];simp[RS.zero,BL]
theorem EB: ∀(xs:List FB) (s:RS),(zT s xs).seq=s.seq∨ ∃c m,FB.com (zT s xs).seq c m∈xs:=by
 intro xs
 induction xs with
 |nil=>intro s;exact Or.inl rfl
 |cons x r ih=>
  intro s;have e:(zJ s x).1.seq=s.seq∨ ∃c m,x=FB.com (zJ s x).1.seq c m:=by
   unfold zJ;split
   ·split<;>exact Or.inl rfl
   ·cases x using FB.el with
    |rev q rs=>exact Or.inl rfl
    |des q ts=>exact Or.inl rfl
    |com q c m=>exact Or.inr ⟨c,m,rfl⟩
    |raw b=>exact Or.inl rfl
  show(if(zJ s x).2=true then zT (zJ s x).1 r else(zJ s x).1).seq=s.seq∨ ∃c m,FB.com (if(zJ s x).2=true then zT (zJ s x).1 r else(zJ s x).1).seq c m∈x::r;split
  ·rcases ih (zJ s x).1 with h|⟨c,m,h⟩
   ·rw[h];rcases e with e|⟨c,m,e⟩
    ·exact Or.inl e
    ·exact Or.inr ⟨c,m,by rw[←e];simp⟩
   ·exact Or.inr ⟨c,m,by simp[h]⟩
  ·rcases e with e|⟨c,m,e⟩
   ·exact Or.inl e
   ·exact Or.inr ⟨c,m,by rw[←e];simp⟩
def QH (lo hi:Int):List FB→Int→List Tx→Prop
 |xs,q,[]=>TL (zT RS.zero xs).txn≠(zT RS.zero xs).seen∨(zT RS.zero xs).seen= []∨(zT RS.zero xs).seq≠q
 |xs,q,t::ts=>zT RS.zero xs=⟨TL t,q,t.homes,t.rV,[]⟩∧t.seq=q∧qy t∧(∀x∈t.homes,lo≤x.1∧x.1≤hi)∧(∀x∈t.rV,lo≤x∧x≤hi)∧QH lo hi (xs.drop (TL t).length) (q+1) ts
theorem QH.stop {lo hi:Int}{xs:List FB}{q:Int}(h:TL (zT RS.zero xs).txn≠(zT RS.zero xs).seen∨(zT RS.zero xs).seen= []∨(zT RS.zero xs).seq≠q):QH lo hi xs q []:=h
theorem QH.step {lo hi:Int}{xs:List FB}{q:Int}{ts:List Tx}(t:Tx)(h:zT RS.zero xs=⟨TL t,q,t.homes,t.rV,[]⟩)(hq:t.seq=q)(hv:qy t)(hh: ∀x∈t.homes,lo≤x.1∧x.1≤hi)(hr: ∀x∈t.rV,lo≤x∧x≤hi)(hs:QH lo hi (xs.drop (TL t).length) (q+1) ts):QH lo hi xs q (t::ts):=⟨h,hq,hv,hh,hr,hs⟩
theorem cU {lo hi:Int}(ts:List Tx): ∀(q:Int) (ys:List FB),1≤q→(∀t∈ts,qy t∧(∀x∈t.homes,Byt x.2)∧(∀x∈t.homes,lo≤x.1∧x.1≤hi)∧ ∀x∈t.rV,lo≤x∧x≤hi)→
  (∀i,i<ts.length→(ts.getD i ⟨0,[],[]⟩).seq=q+i)→(∀n c m,FB.com n c m∈ys→n≠q+ts.length)→QH lo hi (ts.flatMap qx++ys) q ts:=by
 induction ts with
 |nil=>
  intro q ys l _ _ a;refine .stop ?_;rcases EB ([].flatMap qx++ys) RS.zero with h|⟨c,m,h⟩
  ·right;right;rw[h];show(0:Int)≠q;omega
  ·right;right;intro e;exact a _ c m h (by rw[e];simp)
 |cons t r ih=>
  intro q ys l f hs a;obtain⟨b,g,j,o⟩:=f t zn;have d:t.seq=q:=by have:=hs 0 zn;simpa using this
  rw[nX,nk];have k:(qx t).length=(TL t).length:=by rw[←jQ b,mO]
  refine .step t (by rw[Kb b g,d]) d b j o ?_;rw[←k,sj];refine ih (q+1) ys zk (fun x p=>f x (by simp[p])) (fun i hi=>?_) (fun n c m h=>?_)
  ·have:=hs (i+1) (by simpa using hi);rw[sP] at this;rw[this];omega
  ·have:=a n c m h;rw[m7] at this;omega
def qi (size p n:Int):Int:=(p-1+n) % size+1
theorem ZB (w:World)(size p n:Int)(h1:16≤size:=by omega)(h2:size≤512:=by omega)(h3:1≤p:=by omega)(c:p≤512:=by omega)(d:0≤n:=by omega)(f:n≤512:=by omega):
  Calls Tryz.prog 41 #[za size,za p,za n] w fun e w'=>e= .returned (za (qi size p n))∧w'=w:=by
 have g:=pw (p-1+n) (b:=size) zk;have a:=px (p-1+n) (b:=size) zk;go_enter Tryz.func41,Tryz.ntmps41;go_wp2;go_ret;exact⟨rfl,rfl⟩
theorem j6 (w:World)(size p n:Int)(h1:16≤size:=by omega)(h2:size≤512:=by omega)(h3:1≤p:=by omega)(c:p≤512:=by omega)(d:0≤n:=by omega)(f:n≤512:=by omega):
  Calls Tryz.prog 34 #[za p,za n,za size] w fun e w'=>e= .returned (za (qi size p n))∧w'=w:=by
 have g:=pw (p-1+n) (b:=size) zk;have a:=px (p-1+n) (b:=size) zk;go_enter Tryz.func34,Tryz.ntmps34;go_wp2;go_ret;exact⟨rfl,rfl⟩
abbrev n6:= @Bool.eq_false_iff
abbrev pk:= @Bool.not_eq_true
abbrev Qm (sz st sq hd us:Int):Prop:=(16≤sz∧sz≤512)∧(1≤sq∧sq≤4294967295)∧(0≤st∧st≤sz)∧(1≤hd∧hd≤sz)∧(0≤us∧us≤sz)
def zQ (sz st sq hd us:Int):Bool:=decide (Qm sz st sq hd us)&& (if st=0 then decide (us=0) else decide (hd=qi sz st us))
theorem j8 (h: ¬Qm sz st sq hd us):zQ sz st sq hd us=false:=by unfold zQ;rw[mY h];rfl
theorem Ja (h:Qm sz st sq hd us)(h0:st=0:=by omega):zQ sz st sq hd us=decide (us=0):=by unfold zQ;rw[mR h,mM h0];rfl
theorem Xm (h:Qm sz st sq hd us)(h0: ¬st=0:=by omega):zQ sz st sq hd us=decide (hd=qi sz st us):=by unfold zQ;rw[mR h,mN h0];rfl
theorem Yh (w:World)(sz f d i b:Int):
  Calls Tryz.prog 84 #[.agg #[za sz,za f,za d,za i,za b]] w fun e w'=>e= .returned (.bool (zQ sz f d i b))∧zr 0 0 w w':=by
 have g:Hid (zr 0 0 w (w.alloc (zi #[za sz,za f,za d,za i,za b] 30))):=zr.al w;go_enter Tryz.func84,Tryz.ntmps84;go_wp2_with fail;refine(jC _ d).mono ?_;rintro e H ⟨rfl,rfl⟩;by_cases j:qA d=true
 case neg=>
  have a:zQ sz f d i b=false:=j8 (fun h=>j (by unfold qA;rw[mR h.2.1.1,mR h.2.1.2];rfl));rw[pk] at j;rw[j];go_wp2;go_ret;exact⟨by rw[a];rfl,g⟩
 have q:1≤d∧d≤4294967295:=by
  unfold qA at j;simpa using j
 rw[j];by_cases c:Qm sz f d i b
 case neg=>
  have a:zQ sz f d i b=false:=j8 c;have p: ∀ {x:Prop},x∨True:=fun{x}=>Or.inr trivial;by_cases z:sz<16
  ·go_wp2;go_ret;exact⟨by rw[a];rfl,g⟩
  by_cases A:512<sz
  ·go_wp2;go_ret;exact⟨by rw[a];rfl,g⟩
  by_cases B:f<0
  ·go_wp2;go_ret;exact⟨by rw[a];rfl,g⟩
  by_cases C:sz<f
  ·go_wp2;go_ret;exact⟨by rw[a];rfl,g⟩
  by_cases D:i<1
  ·go_wp2;go_ret;exact⟨by rw[a];rfl,g⟩
  by_cases E:sz<i
  ·go_wp2;go_ret;exact⟨by rw[a];rfl,g⟩
  by_cases F:b<0
  ·go_wp2;go_ret;exact⟨by rw[a];rfl,g⟩
  by_cases G:sz<b
  ·go_wp2;go_ret;exact⟨by rw[a];rfl,g⟩
  exact absurd ⟨⟨zk,zk⟩,q,⟨zk,zk⟩,⟨zk,zk⟩,⟨zk,zk⟩⟩ c
 obtain⟨⟨l,n⟩,⟨r,s⟩,⟨t,u⟩,⟨v,y⟩,⟨o,m⟩⟩:=id c;by_cases k:f=0
 ·subst k;have a:=Ja c rfl;have Hv:Hid (zQ sz 0 d i b=decide (b=0)):=a;clear a c;go_wp2;go_ret;exact⟨by rw[Hv.out];rfl,g⟩
 have a:=Xm c k;have Hv:Hid (zQ sz f d i b=decide (i=qi sz f b)):=a;clear a c;go_wp2_with fail;go_quiet (first|(go_at_call 41;exact Calls.quiet_of_same (ZB _ sz f b l n zk zk o)));go_wp2;go_ret;exact⟨by rw[Hv.out];rfl,g.drewN _⟩
theorem ZI (w:World)(sz d g f b:Int):
  Calls Tryz.prog 36 #[.agg #[za sz,za d,za g,za f,za b]] w fun e w'=>e= .returned (.bool (zQ sz d g f b))∧zr 0 0 w w':=by
 have j:Hid (zr 0 0 w (w.alloc (zi #[za sz,za d,za g,za f,za b] 30))):=zr.al w;go_enter Tryz.func36,Tryz.ntmps36;go_wp2_with fail;refine(qZ _ sz 16 512).mono ?_;rintro e p ⟨rfl,rfl⟩;by_cases k:16≤sz∧sz≤512
 case neg=>
  have i:zQ sz d g f b=false:=j8 (fun h=>k h.1);have a:(decide (16≤sz)&&decide (sz≤512))=false:=by rw[n6];simpa using k
  rw[a];go_wp2;go_ret;exact⟨by rw[i];rfl,j⟩
 have a:(decide (16≤sz)&&decide (sz≤512))=true:=by simpa using k
 rw[a];clear a;go_wp2_with fail;refine(qZ _ g 1 4294967295).mono ?_;rintro e p ⟨rfl,rfl⟩;by_cases l:1≤g∧g≤4294967295
 case neg=>
  have i:zQ sz d g f b=false:=j8 (fun h=>l h.2.1);have a:(decide (1≤g)&&decide (g≤4294967295))=false:=by rw[n6];simpa using l
  rw[a];go_wp2;go_ret;exact⟨by rw[i];rfl,j⟩
 have a:(decide (1≤g)&&decide (g≤4294967295))=true:=by simpa using l
 rw[a];clear a;go_wp2_with fail;refine(qZ _ d 0 sz).mono ?_;rintro e p ⟨rfl,rfl⟩;by_cases m:0≤d∧d≤sz
 case neg=>
  have i:zQ sz d g f b=false:=j8 (fun h=>m h.2.2.1);have a:(decide (0≤d)&&decide (d≤sz))=false:=by rw[n6];simpa using m
  rw[a];go_wp2;go_ret;exact⟨by rw[i];rfl,j⟩
 have a:(decide (0≤d)&&decide (d≤sz))=true:=by simpa using m
 rw[a];clear a;go_wp2_with fail;refine(qZ _ f 1 sz).mono ?_;rintro e p ⟨rfl,rfl⟩;by_cases n:1≤f∧f≤sz
 case neg=>
  have i:zQ sz d g f b=false:=j8 (fun h=>n h.2.2.2.1);have a:(decide (1≤f)&&decide (f≤sz))=false:=by rw[n6];simpa using n
  rw[a];go_wp2;go_ret;exact⟨by rw[i];rfl,j⟩
 have a:(decide (1≤f)&&decide (f≤sz))=true:=by simpa using n
 rw[a];clear a;go_wp2_with fail;refine(qZ _ b 0 sz).mono ?_;rintro e p ⟨rfl,rfl⟩;by_cases o:0≤b∧b≤sz
 case neg=>
  have i:zQ sz d g f b=false:=j8 (fun h=>o h.2.2.2.2);have a:(decide (0≤b)&&decide (b≤sz))=false:=by rw[n6];simpa using o
  rw[a];go_wp2;go_ret;exact⟨by rw[i];rfl,j⟩
 have a:(decide (0≤b)&&decide (b≤sz))=true:=by simpa using o
 rw[a];clear a;have c:Qm sz d g f b:=⟨k,l,m,n,o⟩;obtain⟨⟨r,t⟩,⟨v,x⟩,⟨y,z⟩,⟨A,B⟩,⟨u,s⟩⟩:=id c;clear k l m n o;by_cases q:d=0
 ·subst q;have i:=Ja c rfl;have Hv:Hid (zQ sz 0 g f b=decide (b=0)):=i;clear i c;go_wp2;go_ret;exact⟨by rw[Hv.out];rfl,j⟩
 have i:=Xm c q;have Hv:Hid (zQ sz d g f b=decide (f=qi sz d b)):=i;clear i c;go_wp2_with fail;go_quiet (first|(go_at_call 34;exact Calls.quiet_of_same (j6 _ sz d b r t zk zk u)));go_wp2;go_ret;exact⟨by rw[Hv.out];rfl,j.drewN _⟩
theorem qe {d e:Value}(h:w.heap[s]?=some (zi #[a,b,c,d,e] t)):
  w.cell? (zd s)=some a∧w.cell? ⟨s,1,none⟩=some b∧w.cell? ⟨s,2,none⟩=some c∧w.cell? ⟨s,3,none⟩=some d∧w.cell? ⟨s,4,none⟩=some e:=by
 simp[World.cell?,h]
theorem Yr {d e:Value}(h:w.heap[s]?=some (zi #[a,b,c,d,e] t)):
  (w.cell? (zd s)=some a∧w.cell? ⟨s,1,none⟩=some b∧w.cell? ⟨s,2,none⟩=some c∧w.cell? ⟨s,3,none⟩=some d∧w.cell? ⟨s,4,none⟩=some e)∧
   w.frozen? (zd s)=false∧w.frozen? ⟨s,1,none⟩=false∧w.frozen? ⟨s,2,none⟩=false∧w.frozen? ⟨s,3,none⟩=false∧w.frozen? ⟨s,4,none⟩=false:=by
 simp[World.cell?,World.frozen?,h]
abbrev Zl (sz st sq hd us:Int):Value:= .agg #[za sz,za st,za sq,za hd,za us]
abbrev Zb (t:TypeId) (sz st sq hd us:Int):Obj:= .cells #[za sz,za st,za sq,za hd,za us] t
abbrev pR:= @Bool.and_eq_true
def qv (sz st sq hd us:Int) (t:Tx):Bool:=zQ sz st sq hd us&& (ja t&& (decide (sq=t.seq)&& (decide (sq<4294967295)&&decide (((TL t).length:Int)≤sz-us))))
theorem Yj (h:zQ sz st sq hd us=true):Qm sz st sq hd us:=by
 unfold zQ at h;rw[pR,pJ] at h;exact h.1
def TkS (w:World) (sz st sq hd us s:Int) (hv rv:Value) (W:World):Prop:=W.heap[w.heap.size]?=some (Zb 30 sz st sq hd us)∧W.heap[w.heap.size+1]?=some (zi #[za s,hv,rv] 35)∧zr 0 0 w W
theorem TkS.keep {s:Int}{hv rv:Value}{A B:World}(h:TkS w sz st sq hd us s hv rv A)(a:zr 0 0 A B):TkS w sz st sq hd us s hv rv B:=
 ⟨(a.bk _ (zE h.1)).trans h.1,(a.bk _ (zE h.2.1)).trans h.2.1,h.2.2.trans a⟩
theorem UM (w:World){t:Tx}(sz i j h f:Int)(V:Qa t≤1048576)(aa:hi≤w.heap.size)(O: ∀x∈t.homes,Byt x.2)(h1:jy w lo hi a t):
  Calls Tryz.prog 39 #[Zl sz i j h f,a] w fun e w'=>e= .returned (.bool (qv sz i j h f t))∧zr 0 0 w w':=by
 have U:=h1;obtain⟨hv,rv,rfl,X,Y⟩:=h1;obtain⟨l,c,rfl⟩:=X.slice;obtain⟨k,cap,rfl⟩:=Y.slice;have L:Hid (∀W,zr 0 0 w W→jy W lo hi (.agg #[za t.seq,zj l t.homes.length c,zj k t.rV.length cap]) t):=fun W F=>U.chg F zk;have T:zr 0 0 w ((w.alloc (Zb 30 sz i j h f)).alloc (zi #[za t.seq,zj l t.homes.length c,zj k t.rV.length cap] 35)):=(zr.al w).alloc _;obtain⟨z,P,Q⟩:=zU w (Zb 30 sz i j h f) (zi #[za t.seq,zj l t.homes.length c,zj k t.rV.length cap] 35)
 have q:Tryz.prog.follows .mixedOrders=true:=zl;clear U X Y;obtain⟨D,H⟩: ∃D:Int,Hid (D=((TL t).length:Int)):=⟨_,rfl⟩;have E: ∀W,zr 0 0 w W→Calls Tryz.prog 8 #[.agg #[za t.seq,zj l t.homes.length c,zj k t.rV.length cap]] W fun e w'=>e= .returned (za D)∧zr 0 0 W w':=fun W F=>by rw[H.out];exact Zv W V (by have:=F.size;omega) O (L W F)
 have I: ∀W,zr 0 0 w W→Calls Tryz.prog 45 #[.agg #[za t.seq,zj l t.homes.length c,zj k t.rV.length cap]] W fun e w'=>e= .returned (.bool (ja t))∧zr 0 0 W w':=fun W F=>ZJ W V (L W F);clear L;go_enter Tryz.func39,Tryz.ntmps39;go_wp2_with fail;generalize (w.alloc (Zb 30 sz i j h f)).alloc (zi #[za t.seq,zj l t.homes.length c,zj k t.rV.length cap] 35)=w0 at*;refine(Yh _ sz i j h f).mono ?_;rintro e Z ⟨rfl,R⟩
 have M:TkS w sz i j h f t.seq (zj l t.homes.length c) (zj k t.rV.length cap) Z:=TkS.keep ⟨P,Q,T⟩ R;have C:Hid (TkS w sz i j h f t.seq (zj l t.homes.length c) (zj k t.rV.length cap) Z):=M;obtain⟨⟨m,n,o⟩,_⟩:=tri M.2.1;clear M R T P Q;go_wp2_with fail;refine(I _ C.2.2).mono ?_;rintro e G ⟨rfl,S⟩;have HS:Hid (TkS w sz i j h f t.seq (zj l t.homes.length c) (zj k t.rV.length cap) G.drew):=(C.keep S).keep (zr.drew (zr.refl 0 0 G))
 clear S C I m n o;by_cases d:zQ sz i j h f=true
 case neg=>
  rw[pk] at d;have B:Hid (qv sz i j h f t=false):=by show _=_;unfold qv;rw[d];rfl
  rw[d];clear d;go_wp2;refine js (TkS w sz i j h f t.seq (zj l t.homes.length c) (zj k t.rV.length cap)) q ?_;refine hT2 0 (.bool false) rfl ?_;go_simp;refine hT2 1 (.bool false) rfl ?_;go_simp;refine hSk 2 rfl HS ?_;go_simp;refine hT2 3 (.bool false) rfl ?_;go_simp;refine hT2 4 (.bool false) rfl ?_;go_simp;refine hSk 5 rfl HS ?_;go_simp;refine hSk 6 rfl HS ?_;go_simp;refine hSk 7 rfl HS ?_;go_simp
  refine hSk 8 rfl HS ?_;go_simp;refine hSk 9 rfl HS ?_;go_simp;refine hT2 10 (.bool false) rfl ?_;go_simp;refine hT2 11 (.bool false) rfl ?_;go_simp;refine hSk 12 rfl HS ?_;go_simp;refine hSk 13 rfl HS ?_;go_simp;refine hSk 14 rfl HS ?_;go_simp;refine hT2 15 (.bool false) rfl ?_;go_simp;refine hT2 16 (.bool false) rfl ?_;go_simp;refine hSk 17 rfl HS ?_;go_simp;refine hSk 19 rfl HS ?_;go_simp;refine hSk 20 rfl HS ?_
  go_simp;refine hSk 21 rfl HS ?_;go_simp;refine hSk 22 rfl HS ?_;go_simp;refine hSk 23 rfl HS ?_;go_simp;refine hSk 18 rfl HS ?_;go_simp;refine hSk 24 rfl HS ?_;go_simp;refine hT2 25 (.bool false) rfl ?_;go_simp;refine hT2 26 (.bool false) rfl ?_;go_simp;refine hDn ?_;have A:Hid (zr 0 0 w G.drew):=HS.2.2;clear E;go_wp2;go_ret;exact⟨by rw[B.out];rfl,A⟩
 have N:=Yj d;by_cases g:ja t=true
 case neg=>
  rw[pk] at g;have B:Hid (qv sz i j h f t=false):=by show _=_;unfold qv;rw[d,g];rfl
  rw[d,g];clear d g;go_wp2;refine js (TkS w sz i j h f t.seq (zj l t.homes.length c) (zj k t.rV.length cap)) q ?_;refine hT2 0 (.bool true) rfl ?_;go_simp;refine hT2 1 (.bool true) rfl ?_;go_simp;refine hT2 2 (.bool false) rfl ?_;go_simp;refine hT2 3 (.bool false) rfl ?_;go_simp;refine hT2 4 (.bool false) rfl ?_;go_simp;refine hSk 5 rfl HS ?_;go_simp;refine hSk 6 rfl HS ?_;go_simp;refine hSk 7 rfl HS ?_
  go_simp;refine hSk 8 rfl HS ?_;go_simp;refine hSk 9 rfl HS ?_;go_simp;refine hT2 10 (.bool false) rfl ?_;go_simp;refine hT2 11 (.bool false) rfl ?_;go_simp;refine hSk 12 rfl HS ?_;go_simp;refine hSk 13 rfl HS ?_;go_simp;refine hSk 14 rfl HS ?_;go_simp;refine hT2 15 (.bool false) rfl ?_;go_simp;refine hT2 16 (.bool false) rfl ?_;go_simp;refine hSk 17 rfl HS ?_;go_simp;refine hSk 19 rfl HS ?_;go_simp
  refine hSk 20 rfl HS ?_;go_simp;refine hSk 21 rfl HS ?_;go_simp;refine hSk 22 rfl HS ?_;go_simp;refine hSk 23 rfl HS ?_;go_simp;refine hSk 18 rfl HS ?_;go_simp;refine hSk 24 rfl HS ?_;go_simp;refine hT2 25 (.bool false) rfl ?_;go_simp;refine hT2 26 (.bool false) rfl ?_;go_simp;refine hDn ?_;have A:Hid (zr 0 0 w G.drew):=HS.2.2;clear E;go_wp2;go_ret;exact⟨by rw[B.out];rfl,A⟩
 by_cases K:j=t.seq
 case neg=>
  have B:Hid (qv sz i j h f t=false):=by show _=_;unfold qv;rw[d,g,mY K];rfl
  rw[d,g];clear d g;go_wp2;refine js (TkS w sz i j h f t.seq (zj l t.homes.length c) (zj k t.rV.length cap)) q ?_;refine hT2 0 (.bool true) rfl ?_;go_simp;refine hT2 1 (.bool true) rfl ?_;go_simp;refine hT2 2 (.bool true) rfl ?_;go_simp;refine hT2 3 (.bool true) rfl ?_;go_simp;refine hT2 4 (.bool true) rfl ?_;go_simp;refine hT2 5 (.pointer (some ⟨w.heap.size,2,none⟩)) rfl ?_;go_simp;refine hTk 6 (za j) rfl (fun w' b=>by obtain⟨r,s,u,v,y⟩:=qe b.1;obtain⟨⟨m,n,o⟩,_⟩:=tri b.2.1;go_simp) HS.out ?_
  go_simp;refine hT2 7 (zh (w.heap.size+1)) rfl ?_;go_simp;refine hTk 8 (za t.seq) rfl (fun w' b=>by obtain⟨r,s,u,v,y⟩:=qe b.1;obtain⟨⟨m,n,o⟩,_⟩:=tri b.2.1;go_simp) HS.out ?_;go_simp;refine hT2 9 (.bool false) rfl ?_;go_simp;refine hT2 10 (.bool false) rfl ?_;go_simp;refine hT2 11 (.bool false) rfl ?_;go_simp;refine hSk 12 rfl HS ?_;go_simp;refine hSk 13 rfl HS ?_;go_simp;refine hSk 14 rfl HS ?_;go_simp
  refine hT2 15 (.bool false) rfl ?_;go_simp;refine hT2 16 (.bool false) rfl ?_;go_simp;refine hSk 17 rfl HS ?_;go_simp;refine hSk 19 rfl HS ?_;go_simp;refine hSk 20 rfl HS ?_;go_simp;refine hSk 21 rfl HS ?_;go_simp;refine hSk 22 rfl HS ?_;go_simp;refine hSk 23 rfl HS ?_;go_simp;refine hSk 18 rfl HS ?_;go_simp;refine hSk 24 rfl HS ?_;go_simp;refine hT2 25 (.bool false) rfl ?_;go_simp;refine hT2 26 (.bool false) rfl ?_
  go_simp;refine hDn ?_;have A:Hid (zr 0 0 w G.drew):=HS.2.2;clear E;go_wp2;go_ret;exact⟨by rw[B.out];rfl,A⟩
 subst K;by_cases J:t.seq<4294967295
 case neg=>
  have B:Hid (qv sz i t.seq h f t=false):=by show _=_;unfold qv;rw[d,g,mR (rfl:t.seq=t.seq),mY J];rfl
  rw[d,g];clear d g;go_wp2;refine js (TkS w sz i t.seq h f t.seq (zj l t.homes.length c) (zj k t.rV.length cap)) q ?_;refine hT2 0 (.bool true) rfl ?_;go_simp;refine hT2 1 (.bool true) rfl ?_;go_simp;refine hT2 2 (.bool true) rfl ?_;go_simp;refine hT2 3 (.bool true) rfl ?_;go_simp;refine hT2 4 (.bool true) rfl ?_;go_simp;refine hT2 5 (.pointer (some ⟨w.heap.size,2,none⟩)) rfl ?_;go_simp;refine hTk 6 (za t.seq) rfl (fun w' b=>by obtain⟨r,s,u,v,y⟩:=qe b.1;obtain⟨⟨m,n,o⟩,_⟩:=tri b.2.1;go_simp) HS.out ?_
  go_simp;refine hT2 7 (zh (w.heap.size+1)) rfl ?_;go_simp;refine hTk 8 (za t.seq) rfl (fun w' b=>by obtain⟨r,s,u,v,y⟩:=qe b.1;obtain⟨⟨m,n,o⟩,_⟩:=tri b.2.1;go_simp) HS.out ?_;go_simp;refine hT2 9 (.bool true) rfl ?_;go_simp;refine hT2 10 (.bool true) rfl ?_;go_simp;refine hT2 11 (.bool true) rfl ?_;go_simp;refine hT2 12 (.pointer (some ⟨w.heap.size,2,none⟩)) rfl ?_;go_simp;refine hTk 13 (za t.seq) rfl (fun w' b=>by obtain⟨r,s,u,v,y⟩:=qe b.1;obtain⟨⟨m,n,o⟩,_⟩:=tri b.2.1;go_simp) HS.out ?_
  go_simp;refine hT2 14 (.bool false) rfl ?_;go_simp;refine hT2 15 (.bool false) rfl ?_;go_simp;refine hT2 16 (.bool false) rfl ?_;go_simp;refine hSk 17 rfl HS ?_;go_simp;refine hSk 19 rfl HS ?_;go_simp;refine hSk 20 rfl HS ?_;go_simp;refine hSk 21 rfl HS ?_;go_simp;refine hSk 22 rfl HS ?_;go_simp;refine hSk 23 rfl HS ?_;go_simp;refine hSk 18 rfl HS ?_;go_simp;refine hSk 24 rfl HS ?_;go_simp;refine hT2 25 (.bool false) rfl ?_
  go_simp;refine hT2 26 (.bool false) rfl ?_;go_simp;refine hDn ?_;have A:Hid (zr 0 0 w G.drew):=HS.2.2;clear E;go_wp2;go_ret;exact⟨by rw[B.out];rfl,A⟩
 have B:Hid (qv sz i t.seq h f t=decide (D≤sz-f)):=by show _=_;unfold qv;rw[d,g,mR (rfl:t.seq=t.seq),mR J,H.out];rfl
 rw[d,g];unfold Qm at N;have hwr:IntKind.i64.wrap (sz-f)=sz-f:=by rw[mS];omega
 clear d g;go_wp2;refine js (TkS w sz i t.seq h f t.seq (zj l t.homes.length c) (zj k t.rV.length cap)) q ?_;refine hT2 0 (.bool true) rfl ?_;go_simp;refine hT2 1 (.bool true) rfl ?_;go_simp;refine hT2 2 (.bool true) rfl ?_;go_simp;refine hT2 3 (.bool true) rfl ?_;go_simp;refine hT2 4 (.bool true) rfl ?_;go_simp;refine hT2 5 (.pointer (some ⟨w.heap.size,2,none⟩)) rfl ?_;go_simp;refine hTk 6 (za t.seq) rfl (fun w' b=>by obtain⟨r,s,u,v,y⟩:=qe b.1;obtain⟨⟨m,n,o⟩,_⟩:=tri b.2.1;go_simp) HS.out ?_
 go_simp;refine hT2 7 (zh (w.heap.size+1)) rfl ?_;go_simp;refine hTk 8 (za t.seq) rfl (fun w' b=>by obtain⟨r,s,u,v,y⟩:=qe b.1;obtain⟨⟨m,n,o⟩,_⟩:=tri b.2.1;go_simp) HS.out ?_;go_simp;refine hT2 9 (.bool true) rfl ?_;go_simp;refine hT2 10 (.bool true) rfl ?_;go_simp;refine hT2 11 (.bool true) rfl ?_;go_simp;refine hT2 12 (.pointer (some ⟨w.heap.size,2,none⟩)) rfl ?_;go_simp;refine hTk 13 (za t.seq) rfl (fun w' b=>by obtain⟨r,s,u,v,y⟩:=qe b.1;obtain⟨⟨m,n,o⟩,_⟩:=tri b.2.1;go_simp) HS.out ?_
 go_simp;refine hT2 14 (.bool true) rfl ?_;go_simp;refine hT2 15 (.bool true) rfl ?_;go_simp;refine hT2 16 (.bool true) rfl ?_;go_simp;refine hTk 17 (.agg #[za t.seq,zj l t.homes.length c,zj k t.rV.length cap]) rfl (fun w' b=>by obtain⟨r,s,u,v,y⟩:=qe b.1;obtain⟨⟨m,n,o⟩,_⟩:=tri b.2.1;go_simp) HS.out ?_;go_simp;refine hT2 19 (zh w.heap.size) rfl ?_;go_simp;refine hTk 20 (za sz) rfl (fun w' b=>by obtain⟨r,s,u,v,y⟩:=qe b.1;obtain⟨⟨m,n,o⟩,_⟩:=tri b.2.1;go_simp) HS.out ?_
 go_simp;refine hT2 21 (.pointer (some ⟨w.heap.size,4,none⟩)) rfl ?_;go_simp;refine hTk 22 (za f) rfl (fun w' b=>by obtain⟨r,s,u,v,y⟩:=qe b.1;obtain⟨⟨m,n,o⟩,_⟩:=tri b.2.1;go_simp) HS.out ?_;go_simp;refine hT2 23 (za (sz-f)) rfl ?_;go_simp;refine Jj 18 rfl zl zl ?_;refine zv 8 #[.agg #[za t.seq,zj l t.homes.length c,zj k t.rV.length cap]] zq (E _ HS.out.2.2) ?_;rintro e w4 ⟨rfl,c4⟩;have p:Hid (TkS w sz i t.seq h f t.seq (zj l t.homes.length c) (zj k t.rV.length cap) w4):=HS.keep c4
 refine⟨_,rfl,p,?_⟩;go_simp;refine hTk 24 (.bool (decide (D≤sz-f))) rfl (fun w' b=>zm) p.out ?_;go_simp;refine hTk 25 (.bool (decide (D≤sz-f))) rfl (fun w' b=>zm) p.out ?_;go_simp;refine hTk 26 (.bool (decide (D≤sz-f))) rfl (fun w' b=>zm) p.out ?_;go_simp;refine hDn ?_;have A:Hid (zr 0 0 w w4):=p.2.2;clear E;go_wp2;go_ret;exact⟨by rw[B.out];rfl,A⟩
theorem EU {t:Tx}(h:ja t=true):1≤(TL t).length:=by unfold TL;rw[mM h,mL];simp
theorem kG {t:Tx}(h: ¬ja t=true):TL t= []:=by unfold TL;rw[mN h]
theorem KS (w:World){t:Tx}(sz l d j f:Int)(N:Qa t≤1048576)(M:hi≤w.heap.size)(B: ∀x∈t.homes,Byt x.2)(A:Mag w)(h1:jy w lo hi a t):
  Calls Tryz.prog 31 #[Zl sz l d j f,a] w fun e w'=>e= .returned (za (if qv sz l d j f t=true then((TL t).length:Int) else 0))∧zr 0 0 w w':=by
 have I:=h1;obtain⟨R,V,rfl,J,K⟩:=h1;obtain⟨v,c,rfl⟩:=J.slice;obtain⟨r,cap,rfl⟩:=K.slice;have L:=A.lt;obtain⟨p,i⟩: ∃p:Int,Hid (p=if qv sz l d j f t=true then((TL t).length:Int) else 0):=⟨_,rfl⟩;rw[←i.out];have E:Hid (∀W,zr 0 0 w W→jy W lo hi (.agg #[za t.seq,zj v t.homes.length c,zj r t.rV.length cap]) t):=fun W s=>I.chg s zk;have H:zr 0 0 w ((w.alloc (Zb 30 sz l d j f)).alloc (zi #[za t.seq,zj v t.homes.length c,zj r t.rV.length cap] 35)):=(zr.al w).alloc _
 obtain⟨z,F,G⟩:=zU w (Zb 30 sz l d j f) (zi #[za t.seq,zj v t.homes.length c,zj r t.rV.length cap] 35);clear I J K;have o: ∀(W:World),zr 0 0 w W→zQ sz l d j f=true→t.seq=d→d<4294967295→Calls Tryz.prog 70 #[.agg #[za t.seq,zj v t.homes.length c,zj r t.rV.length cap],za (sz-f)] W fun e w'=>e= .returned (za p)∧zr 0 0 W w':=by
  intro W s b g k;have n:=Yj b;unfold Qm at n;have m:(if((TL t).length:Int)≤sz-f then((TL t).length:Int) else 0)=p:=by
   rw[i.out];unfold qv;by_cases u:ja t=true
   ·rw[b,u,mR g.symm,mR k];simp
   ·rw[kG u];simp
  rw[←m];exact Ya W (sz-f) zk N (by have:=s.size;omega) B (A.chg s zk) (E W s)
 clear E A;go_enter Tryz.func31,Tryz.ntmps31;go_wp2_with fail;generalize (w.alloc (Zb 30 sz l d j f)).alloc (zi #[za t.seq,zj v t.homes.length c,zj r t.rV.length cap] 35)=w0 at*;refine(ZI _ sz l d j f).mono ?_;rintro e P ⟨rfl,h1⟩;have C:=h1.bt F;have D:=h1.bt G;have q:Hid (zr 0 0 w P):=H.trans h1;obtain⟨X,Y,Z,x3,x4⟩:=qe C;obtain⟨⟨S,T,U⟩,_⟩:=tri D;clear h1 F G C D H;by_cases b:zQ sz l d j f=true
 case neg=>
  rw[pk] at b;have m:Hid (p=0):=by show _=_;rw[i.out];unfold qv;rw[b];rfl
  rw[b];clear b o;go_wp2;go_ret;exact⟨by rw[m.out];rfl,q⟩
 have n:=Yj b;by_cases g:t.seq=d
 case neg=>
  have m:Hid (p=0):=by show _=_;rw[i.out];unfold qv;rw[mY (fun e=>g e.symm)];simp
  rw[b];clear b o;go_wp2;go_ret;exact⟨by rw[m.out];rfl,q⟩
 by_cases k:d<4294967295
 case neg=>
  have m:Hid (p=0):=by show _=_;rw[i.out];unfold qv;rw[mY k];simp
  rw[b];clear b o;go_wp2;go_ret;exact⟨by rw[m.out];rfl,q⟩
 unfold Qm at n;have o:=fun W h=>o W h b g k;have hwr:IntKind.i64.wrap (sz-f)=sz-f:=by rw[mS];omega
 rw[b];have O:(t.seq !=d)=false:=by rw[g];simp
 clear b g;go_wp2_with fail;refine(o _ q).mono ?_;rintro e Q ⟨rfl,h3⟩;have y:Hid (zr 0 0 w Q):=q.trans h3;clear h3 o;go_wp2;go_ret;exact⟨rfl,y⟩
def VW (sz st sq hd us:Int) (t:Tx):Value:=if qv sz st sq hd us t=true then Zl sz (if st=0 then hd else st) (sq+1) (qi sz hd ((TL t).length:Int)) (us+((TL t).length:Int)) else Zl 0 0 0 0 0
theorem Xl {t:Tx}(h:qv sz st sq hd us t=true):Qm sz st sq hd us∧ja t=true∧sq=t.seq∧sq<4294967295∧((TL t).length:Int)≤sz-us:=by
 unfold qv at h;simp only[pR,pJ] at h;exact⟨Yj h.1,h.2⟩
theorem Yt (w:World){t:Tx}(sz g d b f:Int)(R:Qa t≤1048576)(Q:hi≤w.heap.size)(D: ∀x∈t.homes,Byt x.2)(B:Mag w)(h1:jy w lo hi a t):
  Calls Tryz.prog 11 #[Zl sz g d b f,a] w fun e w'=>e= .returned (VW sz g d b f t)∧zr 0 0 w w':=by
 have L:=h1;obtain⟨hv,rv,rfl,M,N⟩:=h1;obtain⟨s,c,rfl⟩:=M.slice;obtain⟨m,cap,rfl⟩:=N.slice;have P:=B.lt;have H:Hid (∀W,zr 0 0 w W→jy W lo hi (.agg #[za t.seq,zj s t.homes.length c,zj m t.rV.length cap]) t):=fun W o=>L.chg o zk;have A:zr 0 0 w (((w.alloc (Zb 30 sz g d b f)).alloc (zi #[za t.seq,zj s t.homes.length c,zj m t.rV.length cap] 35)).alloc (Zb 30 0 0 0 0 0)):=((zr.al w).alloc _).alloc _;obtain⟨z,I,O,J⟩:=JZ w (Zb 30 sz g d b f) (zi #[za t.seq,zj s t.homes.length c,zj m t.rV.length cap] 35) (Zb 30 0 0 0 0 0)
 clear L M N;obtain⟨i,k⟩: ∃i:Int,Hid (i=if qv sz g d b f t=true then((TL t).length:Int) else 0):=⟨_,rfl⟩;have K: ∀W,zr 0 0 w W→Calls Tryz.prog 31 #[Zl sz g d b f,.agg #[za t.seq,zj s t.homes.length c,zj m t.rV.length cap]] W fun e w'=>e= .returned (za i)∧zr 0 0 W w':=fun W o=>by rw[k.out];exact KS W sz g d b f R (by have:=o.size;omega) D (B.chg o zk) (H W o)
 clear H B;go_enter Tryz.func11,Tryz.ntmps11;go_wp2_with fail;generalize ((w.alloc (Zb 30 sz g d b f)).alloc (zi #[za t.seq,zj s t.homes.length c,zj m t.rV.length cap] 35)).alloc (Zb 30 0 0 0 0 0)=w0 at*;refine(K _ A).mono ?_;rintro e G ⟨rfl,h1⟩;have u:Hid (G.heap[w.heap.size]?=some (Zb 30 sz g d b f)):=h1.bt I;have y:Hid (G.heap[w.heap.size+1+1]?=some (Zb 30 0 0 0 0 0)):=h1.bt J;have HA:Hid (zr 0 0 w G):=A.trans h1
 clear h1 I O J A K;obtain⟨⟨y0,y1,y2,y3,y4⟩,af,ag,ah,ai,aj⟩:=Yr y;by_cases h:qv sz g d b f t=true
 case neg=>
  have l:Hid (VW sz g d b f t=Zl 0 0 0 0 0):=by show _=_;unfold VW;rw[mN h]
  have j:=k.out;rw[mN h] at j;rw[j];clear h j;go_wp2;rw[l.out];exact mT (v:=Zl 0 0 0 0 0) (by simp[results,Tryz.results11,go_sem, *]) rfl ⟨rfl,by refine zr.setCell (zr.setCell (zr.setCell (zr.setCell (zr.setCell HA.out ?_ _) ?_ _) ?_ _) ?_ _) ?_ _<;>refine Or.inr ?_<;>simp<;>omega⟩
 obtain⟨n,r,C,S,E⟩:=Xl h;have j:=k.out;rw[mM h] at j;have l:Hid (VW sz g d b f t=Zl sz (if g=0 then b else g) (d+1) (qi sz b i) (f+i)):=by show _=_;unfold VW;rw[mM h,j]
 have F:=EU r;have T:1≤i:=by rw[j];omega
 rw[←j] at E;have U:(i==0)=false:=by simp;omega
 unfold Qm at n;obtain⟨⟨Y,i2⟩,⟨i3,i4⟩,⟨i5,i6⟩,⟨i7,i8⟩,i9,Z⟩:=n;have p:=fun W=>j6 W sz b i Y i2 i7;clear h j C r F;have V:IntKind.i64.wrap (d+1)=d+1:=by rw[mS];omega
 have X:IntKind.i64.wrap (f+i)=f+i:=by rw[mS];omega
 generalize qi sz b i=pl at*;obtain⟨⟨x0,x1,x2,x3,x4⟩,aa,ab,ac,ad,ae⟩:=Yr u;by_cases q:g=0
 ·rw[mM q] at l;go_wp2_with fail;refine(p _).mono ?_;rintro e w5 ⟨rfl,rfl⟩;go_wp2;rw[l.out];exact mT (v:=Zl sz b (d+1) pl (f+i)) (by simp[results,Tryz.results11,go_sem, *]) rfl ⟨rfl,by refine zr.setCell (zr.setCell (zr.setCell (zr.setCell (zr.setCell (zr.setCell (zr.setCell (zr.setCell (zr.setCell HA.out ?_ _) ?_ _) ?_ _) ?_ _) ?_ _) ?_ _) ?_ _) ?_ _) ?_ _<;>refine Or.inr ?_<;>simp<;>omega⟩
 ·rw[mN q] at l;go_wp2_with fail;refine(p _).mono ?_;rintro e w5 ⟨rfl,rfl⟩;go_wp2;rw[l.out];exact mT (v:=Zl sz g (d+1) pl (f+i)) (by simp[results,Tryz.results11,go_sem, *]) rfl ⟨rfl,by refine zr.setCell (zr.setCell (zr.setCell (zr.setCell (zr.setCell (zr.setCell (zr.setCell (zr.setCell HA.out ?_ _) ?_ _) ?_ _) ?_ _) ?_ _) ?_ _) ?_ _) ?_ _<;>refine Or.inr ?_<;>simp<;>omega⟩
structure XW (w x:World)(cur:List Value):Prop where
 b0:x.heap[w.heap.size]?=some (zi cur.toArray 78)
 b1:x.heap[w.heap.size+1]?=some (zi Z64.toArray 78)
 ch:zr 0 0 w x
theorem XW.lt (h:XW w x cur):w.heap.size+1<x.heap.size:=(zE h.b1)
theorem XW.chg {y:World}(h:XW w x cur)(c:zr 0 0 x y):XW w y cur:=
 have:=h.lt
 ⟨c.bt h.b0,c.bt h.b1,h.ch.trans c⟩
theorem XW.put {y:World}{cur':List Value}(h:XW w x cur)(c:zr w.heap.size (w.heap.size+1) x y)(a:y.heap[w.heap.size]?=some (zi cur'.toArray 78)):XW w y cur':=
 have:=h.lt
 ⟨a,c.bt h.b1,h.ch.step c⟩
theorem Ns (w:World)(b J:List Int)(Z:b.length=60)(hz:J.length=4)(hB:Byt b):
  Calls Tryz.prog 223 #[.agg ((b++J).map (Value.int .u8)).toArray] w fun e w'=>e= .returned (.agg ((b++zx (Zy b) 4).map (Value.int .u8)).toArray)∧zr 0 0 w w':=by
 obtain⟨A,B⟩:=qP b;have a:Hid ((zx (Zy b) 4).length=4):=pn4 A B;have c:Hid (b.length=60):=Z;have R:Hid (J.length=4):=hz;have M:Hid (Byt b):=hB;obtain⟨cv,l⟩: ∃cv,Hid (cv=Zy b):=⟨_,rfl⟩;have ab:cv≤9223372036854775807:=by rw[l.out];omega
 obtain⟨bs,k⟩: ∃bs,Hid (bs=(b++J).map (Value.int .u8)):=⟨_,rfl⟩;have u:Hid (bs.length=64):=by show _=_;rw[k.out,mO,mL,Z,hz]
 have HE:Hid (XW w ((w.alloc (zi bs.toArray 78)).alloc (zi Z64.toArray 78)) bs):=by
  obtain⟨z1,z2,z3⟩:=zU w (zi bs.toArray 78) (zi Z64.toArray 78);exact⟨z2,z3,(zr.al w).alloc _⟩
 rw[←k.out,←l.out];rw[←l.out] at a;clear Z hz hB A B;go_enter Tryz.func223,Tryz.ntmps223;go_upto_region 1 with fail;simp only[qd];generalize (w.alloc (zi bs.toArray 78)).alloc (zi Z64.toArray 78)=H at*;go_cut [7] (fun _ wx=>XW w wx (splice bs 60 ((zx cv 4).map (Value.int .u8))))
 case first=>
  have o:Hid (XW w H.drew bs):=HE.chg (zr.drew (zr.refl 0 0 H));have t:Hid ((fun _:World=>True) H.drew):=trivial;refine hRg (fun _:World=>True) ?_;refine hTk 0 (zj (some ⟨w.heap.size,60,none⟩) 4 4) rfl (fun w' Y=>zm) t.out ?_;go_simp;refine hTk 1 (zg w.heap.size 60 64) rfl (fun w' Y=>zm) t.out ?_;go_simp;generalize H.drew=x1 at*;have W:=o.lt;have E:zC x1 w.heap.size (w.heap.size+1) .u8 (zg w.heap.size 60 64) b:=by
   have h0:=o.b0;rw[k.out] at h0;have X:=Ug h0 0 60 64 (by rw[mL,c.out];omega) (by rw[mL,c.out,R.out];decide);rwa [sN,oG (by rw[c.out];exact mP _),ny (by rw[c.out];exact mP _)] at X
  have q:=UF x1 M E;rw[←l.out] at q;refine hOn 2 rfl ?_;refine zv 224 #[zg w.heap.size 60 64] zq q ?_;rintro e x2 ⟨rfl,x⟩;have K:Hid (XW w x2 bs):=o.chg x;refine⟨_,rfl,trivial,?_⟩;clear q E x;go_simp;have q:=jM x2 cv 4;refine hOn 3 rfl ?_;refine zv 124 #[za cv,za 4] zq q ?_;rintro e I ⟨r,rfl,G,x⟩;have s:Hid (XW w I bs):=K.chg x;obtain⟨g,y,rfl,d⟩: ∃g y,r=zg g 4 y∧ ∀i,i<4→I.cell? ⟨g,i,none⟩=some (zb ((zx cv 4).getD i 0)):=by
   have X:=G.view (hi:=I.heap.size) (by rw[a.out];omega) (fun g hg=>(G.lt g hg).2);rcases G.2 with⟨_,h0⟩|⟨g,y,aa,rfl,_⟩
   ·rw[a.out] at h0;omega
   ·refine⟨g,y,by rw[a.out],fun i hi=>X.cellAt' i (by rw[a.out];exact hi)⟩
  refine⟨_,rfl,trivial,?_⟩;have p:Hid (∀i,i<4→I.cell? ⟨g,i,none⟩=some (zb ((zx cv 4).getD i 0))):=d;clear q G x d;go_simp;refine hOn 4 rfl ?_;refine jY (.tmp 3) (.tmp 6) 22 22 rfl 5 Tryz.underlying22 zl w.heap.size 60 4 4 (zd g) 4 y rfl rfl bs 78 s.b0 ((zx cv 4).map (Value.int .u8)) (by rw[mO,a.out];rfl) ?_ (by rw[mO,a.out,u.out];decide) (nf _ _) ?_
  ·intro j v hj;have D:j<4:=by have:=(nD.1 hj).1;rwa [mO,a.out] at this
   have U:j<(zx cv 4).length:=by rw[a.out];exact D
   rw[n9,ni,p.out j D,←hj];simp[U]
  intro x4 z C;have L:Hid (XW w x4 (splice bs 60 ((zx cv 4).map (Value.int .u8)))):=s.put C z.out;refine⟨trivial,?_⟩;clear z C;go_simp;refine hDn ?_;go_wp2;go_meet;exact L
 case rest=>
  have hF:splice bs 60 ((zx cv 4).map (Value.int .u8))=(b++zx cv 4).map (Value.int .u8):=by
   have hm:(b.map (Value.int .u8)).length=60:=by rw[mO];exact c
   have e1:bs.take 60=b.map (Value.int .u8):=by
    rw[k.out,m6,oG (by rw[hm];exact mP _),ny (by rw[hm];exact mP _)]
   have e2:bs.drop (60+((zx cv 4).map (Value.int .u8)).length)= []:=by
    apply pp;rw[mO,u.out,a.out];decide
   rw[m6 (l₁:=b) (l₂:=zx cv 4)];unfold splice;rw[e1,e2,nw]
  rw[hF] at hcut;have n:((b++zx cv 4).map (Value.int .u8)).length=64:=by
   rw[mO,mL,c.out,a.out]
  obtain⟨cs,m⟩: ∃cs,cs=(b++zx cv 4).map (Value.int .u8):=⟨_,rfl⟩;have O:Hid (∀v∈cs,v.oneCell'=true):=by show∀v∈cs,v.oneCell'=true;rw[m];exact nf _ _
  rw[←m] at hcut n;have h:Hid (XW w wc cs):=hcut;generalize wc=wf at*;have P:Hid (cs=(b++zx cv 4).map (Value.int .u8)):=m;have f:(Tryz.prog.info? 78).map (·.size)=some cs.length:=by rw[n];kernel_rfl
  have Q:Hid (cs.length=64):=n;have F:=Tryz.underlying78;have HR:Hid (wf.rangeAt w.heap.size 0 cs):=zy h.b0;have W:=h.lt;clear hF n m hcut HE;go_wp2_with (first
   |(refine wpList_load_mid rfl 78 (.tmp 1) rfl w.heap.size 0 rfl cs _ HR F rfl f ?_)
   |(refine wpList_store_row rfl 78 (.tmp 2) (.tmp 8) rfl rfl (w.heap.size+1) rfl cs Z64 78 rfl h.b1 (by rw[zN];exact Q) f O ?_;intro wg S T))
  have N:Hid (zr 0 0 w wg):=h.ch.step T;have V:(loadVar 78 (zd (w.heap.size+1))).run Tryz.prog wg= .ok (.agg cs.toArray) wg:=run_loadVar_mid _ _ _ _ cs _ (zy S) F rfl f;go_wp2;exact bodyPost_ret (v:= .agg cs.toArray) (zH Tryz.results223 rfl V) rfl ⟨by rw[P.out],N⟩
def jP (h0 h1 h2 h3 kd it sq st:Int):List Int:= [h0,h1,h2,h3,kd,0]++zx it 2++zx sq 4++zx st 2++List.replicate 46 0
def qz (h0 h1 h2 h3 kd it sq st:Int):List Int:=jP h0 h1 h2 h3 kd it sq st++zx (Zy (jP h0 h1 h2 h3 kd it sq st)) 4
theorem ZO {h0 h1 h2 h3 kd it:Int}(a:(zx it 2).length=2)(b:(zx sq 4).length=4)(c:(zx st 2).length=2):(jP h0 h1 h2 h3 kd it sq st).length=60:=by
 unfold jP;simp[a,b,c]
abbrev jsO (t:TypeId) (h0 h1 h2 h3 kd it sq st:Int):Obj:= .cells #[zb h0,zb h1,zb h2,zb h3,za kd,za it,za sq,za st] t
theorem J5 (w:World)(h0 h1 h2 h3 kd it sq st:Int)(am:0≤kd)(an:kd<256)(hi:it≤9223372036854775807)(hq:sq≤9223372036854775807)(ht:st≤9223372036854775807)(x:(zx it 2).length=2)(y:(zx sq 4).length=4)(S:(zx st 2).length=2)
  (P:(zx (Zy (jP h0 h1 h2 h3 kd it sq st)) 4).length=4) (hB:Byt (jP h0 h1 h2 h3 kd it sq st)) (_:Zy (jP h0 h1 h2 h3 kd it sq st)≤9223372036854775807:=by omega):
  Calls Tryz.prog 221 #[.agg #[zb h0,zb h1,zb h2,zb h3,za kd,za it,za sq,za st]] w fun e w'=>e= .returned (.agg ((qz h0 h1 h2 h3 kd it sq st).map (Value.int .u8)).toArray)∧zr 0 0 w w':=by
 have J:=fun w=>QS w h0 h1 h2 h3 kd it sq am an hi hq x y;have L:Hid _:=x;have M:Hid _:=y;have l:Hid _:=S;have ae:Hid _:=P;have aa:Hid _:=hB;have m:=NH (h0:=h0) (h1:=h1) (h2:=h2) (h3:=h3) (kd:=kd) x y;obtain⟨bs,s⟩: ∃bs,Hid (bs=(YT h0 h1 h2 h3 kd it sq).map (Value.int .u8)):=⟨_,rfl⟩;have C:Hid (bs.length=64):=by show _=_;rw[s.out,mO];exact m
 have HV:Hid (∀v∈bs,v.oneCell'=true):=by show∀v∈bs,v.oneCell'=true;rw[s.out];exact nf _ _
 rw[←s.out] at J;have aj:(Tryz.prog.info? 78).map (·.size)=some bs.length:=by rw[C.out];kernel_rfl
 obtain⟨z1,X,Y⟩:=zU w (jsO 192 h0 h1 h2 h3 kd it sq st) (zi Z64.toArray 78);have U:zr 0 0 w ((w.alloc (jsO 192 h0 h1 h2 h3 kd it sq st)).alloc (zi Z64.toArray 78)):=(zr.al w).alloc _;have HZ:Hid (_∧_∧_∧_):=⟨z1,X,Y,U⟩;clear z1 X Y U x y S P m hB;go_enter Tryz.func221,Tryz.ntmps221;go_wp2_with fail;simp only[qd];generalize ((w.alloc (jsO 192 h0 h1 h2 h3 kd it sq st)).alloc (zi Z64.toArray 78))=wa at*
 refine(J wa).mono ?_;rintro e T ⟨rfl,F⟩;have HE:Hid (Enc w (T.alloc (zi Z64.toArray 78)) T.heap.size (jsO 192 h0 h1 h2 h3 kd it sq st) Z64):=by
  obtain⟨z1,X,Y,U⟩:=HZ.out;have s2:=F.size;have k:zr 0 0 wa (T.alloc (zi Z64.toArray 78)):=F.alloc _;exact⟨k.bt X,k.bt Y,zt _ _,zk,U.trans k⟩
 clear J F HZ;have Q:=HE.b2;rw[←qd] at Q;have Hg:Hid (_=_):=Q;clear Q;go_upto_region 2 with(first
  |(refine wpList_store_row rfl 78 (.tmp 3) (.tmp 6) rfl rfl T.heap.size rfl bs _ 78 rfl Hg (by rw[C.out];rfl) aj HV ?_;intro w3 n k))
 simp only[qd] at k;clear Hg;have B:Hid _:=HE.put k n;have ar:=B.lo;generalize T.heap.size=N at*;clear n k HE;go_cut [11] (fun _ wx=>Enc w wx N (jsO 192 h0 h1 h2 h3 kd it sq st) (splice bs 12 ((zx st 2).map (Value.int .u8))))
 case first=>
  have A:Hid _:=B.chg (zr.drew (zr.refl 0 0 w3));have HS0:Hid ((fun w':World=>w'.cell? ⟨w.heap.size,7,none⟩=some (za st)) w3.drew):=by
   have hb:=A.b0;show _=_;simp[World.cell?,hb]
  refine hRg (fun w':World=>w'.cell? ⟨w.heap.size,7,none⟩=some (za st)) ?_;refine hTk 0 (zj (some ⟨N,12,none⟩) 52 52) rfl (fun w' H=>zm) HS0.out ?_;go_simp;refine hTk 1 (.pointer (some ⟨w.heap.size,7,none⟩)) rfl (fun w' H=>zm) HS0.out ?_;go_simp;refine hTk 2 (za st) rfl (fun w' H=>by have h4:w'.cell? _=_:=H;go_simp) HS0.out ?_;go_simp;generalize w3.drew=x1 at*;have ap:=A.lt;have J:=jM x1 st 2;refine hOn 3 rfl ?_
  refine zv 124 #[za st,za 2] zq J ?_;rintro e x2 ⟨r,rfl,V,I⟩;have HB2:Hid _:=A.chg I;have K:Hid _:=I.cell HS0;obtain⟨g,O,rfl,o⟩: ∃g O,r=zg g 2 O∧ ∀i,i<2→x2.cell? ⟨g,i,none⟩=some (zb ((zx st 2).getD i 0)):=by
   have hv:=V.view (hi:=x2.heap.size) (by rw[l.out];omega) (fun g Q=>(V.lt g Q).2);rcases V.2 with⟨_,h0⟩|⟨g,O,aq,rfl,_⟩
   ·rw[l.out] at h0;omega
   ·refine⟨g,O,by rw[l.out],fun i hi=>hv.cellAt' i (by rw[l.out];exact hi)⟩
  refine⟨_,rfl,K,?_⟩;have D:Hid _:=o;clear J V I o;go_simp;refine hOn 4 rfl ?_;refine jY (.tmp 7) (.tmp 10) 22 22 rfl 5 Tryz.underlying22 zl N 12 52 52 (zd g) 2 O rfl rfl bs 78 HB2.b2 ((zx st 2).map (Value.int .u8)) (by rw[mO,l.out];rfl) ?_ (by rw[mO,l.out,C.out];decide) (nf _ _) ?_
  ·intro j v hj;have R:j<2:=by have:=(nD.1 hj).1;rwa [mO,l.out] at this
   have ak:j<(zx st 2).length:=by rw[l.out];exact R
   rw[n9,ni,D.out j R,←hj];simp[ak]
  intro x3 n k;have Z:Hid _:=HB2.put k n.out;have ac:Hid _:=k.cell K;refine⟨ac,?_⟩;clear n k;go_simp;refine hDn ?_;go_wp2;go_meet;exact Z
 case rest=>
  have hF:splice bs 12 ((zx st 2).map (Value.int .u8))=(jP h0 h1 h2 h3 kd it sq st++ [0,0,0,0]).map (Value.int .u8):=by
   rw[s.out];unfold YT jP
   match h2':zx it 2,L,h4':zx sq 4,M,h5':zx st 2,l with
   | [a,b],_,[c,d,e,f],_,[g,h],_=>unfold splice;rfl
  rw[hF] at hcut;have t:=ZO (h0:=h0) (h1:=h1) (h2:=h2) (h3:=h3) (kd:=kd) L M l;have E:=fun W=>Ns W (jP h0 h1 h2 h3 kd it sq st) [0,0,0,0] t rfl aa;have m:((jP h0 h1 h2 h3 kd it sq st++ [0,0,0,0]).map (Value.int .u8)).length=64:=by rw[mO,mL,t];rfl
  have u:((jP h0 h1 h2 h3 kd it sq st++zx (Zy (jP h0 h1 h2 h3 kd it sq st)) 4).map (Value.int .u8)).length=64:=by rw[mO,mL,t,ae.out]
  obtain⟨ds,G⟩: ∃ds,ds=(jP h0 h1 h2 h3 kd it sq st++ [0,0,0,0]).map (Value.int .u8):=⟨_,rfl⟩;obtain⟨cs,p⟩: ∃cs,cs=(jP h0 h1 h2 h3 kd it sq st++zx (Zy (jP h0 h1 h2 h3 kd it sq st)) 4).map (Value.int .u8):=⟨_,rfl⟩;have ad:Hid (∀v∈cs,v.oneCell'=true):=by show∀v∈cs,v.oneCell'=true;rw[p];exact nf _ _
  have ag:Hid (cs=(qz h0 h1 h2 h3 kd it sq st).map (Value.int .u8)):=p;rw[←G,←p] at E;rw[←G] at hcut m;rw[←p] at u;have q:Hid _:=hcut;generalize wc=wf at*;have hids:(Tryz.prog.info? 78).map (·.size)=some ds.length:=by rw[m];kernel_rfl
  have z:(Tryz.prog.info? 78).map (·.size)=some cs.length:=by rw[u];kernel_rfl
  have af:Hid _:=u;have u44:=Tryz.underlying78;have HR:Hid _:=zy q.b2;have ap:=q.lt;clear hF t m u G p hcut B;go_wp2_with (refine nM rfl 78 (.tmp 3) rfl N 0 rfl ds _ HR.out u44 rfl hids ?_);refine(E wf).mono ?_;rintro e x2 ⟨rfl,I⟩;have HB2:Hid _:=q.chg I;clear E I q HR;go_wp2_with (refine wpList_store_row rfl 78 (.tmp 2) (.tmp 13) rfl rfl (w.heap.size+1) rfl cs Z64 78 rfl HB2.out.b1 (by rw[zN];exact af.out) z ad.out ?_;intro wg ah ai)
  have ab:Hid (zr 0 0 w wg):=HB2.ch.step ai;have ao:(loadVar 78 (zd (w.heap.size+1))).run Tryz.prog wg= .ok (.agg cs.toArray) wg:=nd _ _ _ _ cs _ (zy ah) u44 rfl z;go_wp2;exact mT (v:= .agg cs.toArray) (zH Tryz.results221 rfl ao) rfl ⟨by rw[ag.out],ab⟩
theorem KR {h0 h1 h2 h3 kd it:Int}(b:(zx it 2).length=2)(c:(zx sq 4).length=4)(d:(zx st 2).length=2)(a:(zx (Zy (jP h0 h1 h2 h3 kd it sq st)) 4).length=4):(qz h0 h1 h2 h3 kd it sq st).length=64:=by
 unfold qz;rw[mL,ZO b c d,a]
structure OkS (it sq st:Int):Prop where
 a1:1≤sq
 a2:sq≤4294967295
 a3:16≤it
 a4:it≤512
 a5:0≤st
 a6:st≤it
theorem ga (c q s:Int):zD 1 c q++zx s 2++List.replicate 46 0=jP 106 108 111 103 1 c q s:=by
 unfold zD jP mg;simp
theorem Q9 (w:World)(c s q:Int)(h:OkS c q s)(hB:Byt (jP 106 108 111 103 1 c q s)):
  Calls Tryz.prog 53 #[.agg #[za c,za s,za q]] w fun e w'=> ∃v,e= .returned v∧zu w' w.heap.size 5 v (qz 106 108 111 103 1 c q s)∧zr 0 0 w w':=by
 obtain⟨a1,a2,a3,a4,a5,a6⟩:=h;have n:Hid ((zx c 2).length=2):=pn2;have o:Hid ((zx q 4).length=4):=pn4;have l:Hid _:=pn2;have aa:Hid _:=hB;have i:qA q=true:=by unfold qA;rw[mR a1,mR a2];rfl
 have C0:zr 0 0 w (w.alloc (zi #[za c,za s,za q] 45)):=zr.al w;have B0:=zt w (zi #[za c,za s,za q] 45);have s0:(w.alloc (zi #[za c,za s,za q] 45)).heap.size=w.heap.size+1:=zn;have d:=jC (w.alloc (zi #[za c,za s,za q] 45)) q;rw[i] at d;have HB:Hid _:=B0;have HC:Hid _:=C0;have b1: ¬c<16:=zk;have b2: ¬512<c:=zk;have b3: ¬s<0:=zk;have b4: ¬c<s:=zk;clear C0 B0 hB i;go_enter Tryz.func53,Tryz.ntmps53;go_wp2_with fail
 generalize w.alloc (zi #[za c,za s,za q] 45)=w1 at*;refine d.mono ?_;rintro e w2 ⟨rfl,rfl⟩;have ar:w.heap.size<w2.heap.size:=zk;clear d s0;obtain⟨k0,k1,k2⟩:=aN HB;go_upto_region 4 with fail;go_cut [4] (fun s4 wx=>zu wx w.heap.size 5 s4 (zD 1 c q++zx s 2)∧zr 0 0 w2 wx)
 case first=>
  have HS0:Hid (w2.drew.cell? (zd w.heap.size)=some (za c)∧w2.drew.cell? ⟨w.heap.size,1,none⟩=some (za s)∧w2.drew.cell? ⟨w.heap.size,2,none⟩=some (za q)):=⟨k0,k1,k2⟩;have ab:Hid _:=zr.drew (zr.refl 0 0 w2);have au:q≤9223372036854775807:=zk;clear k0 k1 k2;refine hRg (fun w':World=>w'.cell? (zd w.heap.size)=some (za c)∧w'.cell? ⟨w.heap.size,1,none⟩=some (za s)∧w'.cell? ⟨w.heap.size,2,none⟩=some (za q)) ?_
  refine hTk 0 (zh w.heap.size) rfl (fun w' a=>by have j:=a.1;have k:=a.2.1;have p:=a.2.2;go_simp) HS0.out ?_;go_simp;refine hTk 1 (za c) rfl (fun w' a=>by have j:=a.1;have k:=a.2.1;have p:=a.2.2;go_simp) HS0.out ?_;go_simp;refine hTk 2 (.pointer (some ⟨w.heap.size,2,none⟩)) rfl (fun w' a=>by have j:=a.1;have k:=a.2.1;have p:=a.2.2;go_simp) HS0.out ?_;go_simp;refine hTk 3 (za q) rfl (fun w' a=>by have j:=a.1;have k:=a.2.1;have p:=a.2.2;go_simp) HS0.out ?_
  go_simp;refine hTk 5 (.pointer (some ⟨w.heap.size,1,none⟩)) rfl (fun w' a=>by have j:=a.1;have k:=a.2.1;have p:=a.2.2;go_simp) HS0.out ?_;go_simp;refine hTk 6 (za s) rfl (fun w' a=>by have j:=a.1;have k:=a.2.1;have p:=a.2.2;go_simp) HS0.out ?_;go_simp;have aq:w.heap.size<w2.drew.heap.size:=by show w.heap.size<w2.heap.size;omega
  generalize w2.drew=R at*;have d:=QB R 1 c q zk zk zk n o;refine hOn 4 rfl ?_;refine zv 99 #[za 1,za c,za q] zq d ?_;rintro e t ⟨v4,rfl,o4,j⟩;obtain⟨T,W,S,rfl⟩:=zF o4;have u:Hid (t.cell? (zd w.heap.size)=some (za c)∧t.cell? ⟨w.heap.size,1,none⟩=some (za s)∧t.cell? ⟨w.heap.size,2,none⟩=some (za q)):=⟨j.cell HS0.1,j.cell HS0.2.1,j.cell HS0.2.2⟩;have s4:=j.size;have G:Hid (zu t R.heap.size 5 (zj T W S) (zD 1 c q)):=o4
  have A:Hid _:=ab.trans j;refine⟨_,rfl,u,?_⟩;clear d o4 j;go_simp;have d:=zX t s 2;refine hOn 7 rfl ?_;refine zv 100 #[za s,za 2] zq d ?_;rintro e E ⟨v5,rfl,y,k⟩;have x:Hid (_∧_∧_):=⟨k.cell u.1,k.cell u.2.1,k.cell u.2.2⟩;have s5:=k.size;have ai:Hid (zC E R.heap.size t.heap.size .u8 (zj T W S) (zD 1 c q)):=(G.view (by have h1:=n.out;have h2:=o.out;simp[zD,mg,h1,h2]) (fun g i=>(G.lt g i).2)).chg k zk
  have I:Hid (zC E t.heap.size E.heap.size .u8 v5 (zx s 2)):=y.view (by rw[l.out];omega) (fun g i=>(y.lt g i).2);obtain⟨e5,l5,c5,rfl⟩:=zF y;have B:Hid _:=A.trans k;refine⟨_,rfl,x,?_⟩;clear d y k;go_simp;obtain⟨b5,f5,rfl⟩: ∃b f,e5=some ⟨b,f,none⟩:=by
   obtain⟨ao,cap,e,_,_,h⟩:=I.out;rcases h with h|⟨b,am,hb,_⟩
   ·have:=l.out;rw[h] at this;simp at this
   ·simp only[ns] at e;exact⟨b,am,by rw[e.1,hb]⟩
  have d:=j4 (xs:=zD 1 c q) (ys:=zx s 2) E (by have h1:=n.out;have h2:=o.out;simp[zD,mg,h1,h2]) (by rw[l.out];omega) ai I (by rw[l.out];omega);refine hOn 8 rfl ?_;refine zv 48 #[zj T W S,zj (some ⟨b5,f5,none⟩) l5 c5] zq d ?_;rintro e w6 ⟨v6,rfl,X,p⟩;have H:Hid (_∧_∧_):=⟨p.cell x.1,p.cell x.2.1,p.cell x.2.2⟩;have s6:=p.size;have z:Hid ((zD 1 c q++zx s 2).length=14):=by
   show _=_;have h1:=n.out;have h2:=o.out;have h3:=l.out;simp[zD,mg,h1,h2,h3]
  have af:Hid (zu w6 w.heap.size 5 v6 (zD 1 c q++zx s 2)):=X.base (fun g i=>by have:=(X.lt g i).1;omega);obtain⟨e6,l6,c6,rfl⟩:=zF X;have ac:Hid _:=B.trans p;refine⟨_,rfl,H,?_⟩;clear d X p;go_simp;refine hOn 9 rfl ?_;go_simp;refine⟨H,?_⟩;refine hDn ?_;go_wp2;go_meet;exact⟨af,ac⟩
 case rest=>
  obtain⟨N,hc⟩:=hcut;have m:(zD 1 c q++zx s 2).length=14:=by
   have h1:=n.out;have h2:=o.out;have h3:=l.out;simp[zD,mg,h1,h2,h3]
  have z:Hid _:=m;obtain⟨V,K⟩: ∃V,Hid (V=zD 1 c q++zx s 2):=⟨_,rfl⟩;rw[←K.out] at N m;have Hl:Hid _:=m;have sW:=hc.size;have ae:Hid _:=HC.trans hc;have vh:=N.view (hi:=wc.heap.size) zk (fun g i=>(N.lt g i).2);obtain⟨T,W,S,rfl⟩:=zF N;generalize wc=R at*;clear N hc z m k0 k1 k2;have d:=qS R 46;go_wp2_with fail;refine d.mono ?_;rintro e t ⟨g,rfl,oz,j⟩;have s4:=j.size;have vz:=oz.view (hi:=t.heap.size) zn (fun g i=>(oz.lt g i).2)
  have Q:=vh.chg j zk;have A:Hid _:=ae.trans j;have C:=j4 (xs:=V) (ys:=List.replicate 46 0) t (by have:=Hl.out;omega) zn Q vz zn;rw[show V++List.replicate 46 0=jP 106 108 111 103 1 c q s from by rw[K.out];exact ga c q s] at C;clear d oz j vz vh Q;go_wp2_with fail;refine C.mono ?_;rintro e E ⟨v5,rfl,y,k⟩;have s5:=k.size;have J:Hid ((jP 106 108 111 103 1 c q s).length=60):=ZO n o l;have Z:=y.view (hi:=E.heap.size) (by rw[J.out];omega) (fun g i=>(y.lt g i).2)
  obtain⟨e5,l5,c5,rfl⟩:=zF y;have B:Hid _:=A.trans k;obtain⟨aj,ak⟩:=qP (jP 106 108 111 103 1 c q s);have M:=pn4 aj ak;have ah:Hid (jP 106 108 111 103 1 c q s++zx (Zy (jP 106 108 111 103 1 c q s)) 4=qz 106 108 111 103 1 c q s):=rfl;have d:=Q8 E aa Z;have an:=Z;generalize jP 106 108 111 103 1 c q s=xa at*;generalize Zy xa=cv at*;have r:Hid _:=M;clear C y k M;go_wp2_with fail;refine d.mono ?_;rintro e w6 ⟨rfl,rfl⟩
  have L:=zX w6 cv 4;clear d;go_wp2_with fail;refine L.mono ?_;rintro e w7 ⟨v7,rfl,Y,U⟩;have s7:=U.size;have F:Hid _:=B.trans U;have P:=Z.chg U zk;have O:=Y.view (hi:=w7.heap.size) (by rw[r.out];omega) (fun g i=>(Y.lt g i).2);obtain⟨g7,c7,rfl⟩: ∃g c,v7=zg g 4 c:=by
   rcases Y.2 with⟨_,h0⟩|⟨g,gc,ap,rfl,_⟩
   ·rw[r.out] at h0;omega
   ·exact⟨g,gc,by rw[r.out]⟩
  have D:=j4 (xs:=xa) (ys:=zx cv 4) w7 (by rw[J.out];omega) (by rw[r.out];omega) P O (by rw[r.out];omega);rw[ah.out] at D;clear L Y U Z an P O;go_wp2_with fail;refine D.mono ?_;rintro e w8 ⟨v8,rfl,o8,h8⟩;have ag:Hid (zu w8 w.heap.size 5 v8 (qz 106 108 111 103 1 c q s)):=o8.base (fun g i=>by have:=(o8.lt g i).1;have:=F.size;omega);have ad:Hid _:=F.trans h8;clear D o8 h8;go_wp2;go_ret;exact⟨_,rfl,ag,ad⟩
theorem U6 (w:World)(c s q:Int)(F:w.cell? (zd 0)=some (zb 106))(G:w.cell? ⟨0,1,none⟩=some (zb 108))(H:w.cell? ⟨0,2,none⟩=some (zb 111))(I:w.cell? ⟨0,3,none⟩=some (zb 103)):
  Calls Tryz.prog 111 #[.agg #[za c,za s,za q]] w fun e w'=>e= .returned (.agg #[zb 106,zb 108,zb 111,zb 103,za 1,za c,za q,za s])∧zr 0 0 w w':=by
 have A:zr 0 0 w ((w.alloc (zi #[za c,za s,za q] 45)).alloc (zi #[zb 0,zb 0,zb 0,zb 0,za 0,za 0,za 0,za 0] 192)):=(zr.al w).alloc _;have z:((w.alloc (zi #[za c,za s,za q] 45)).alloc (zi #[zb 0,zb 0,zb 0,zb 0,za 0,za 0,za 0,za 0] 192)).heap[w.heap.size]?=some (zi #[za c,za s,za q] 45):=Eb _ _ _;have m:((w.alloc (zi #[za c,za s,za q] 45)).alloc (zi #[zb 0,zb 0,zb 0,zb 0,za 0,za 0,za 0,za 0] 192)).heap[w.heap.size+1]?=some (zi #[zb 0,zb 0,zb 0,zb 0,za 0,za 0,za 0,za 0] 192):=Vs _ _ _
 have y:w.heap.size+1<((w.alloc (zi #[za c,za s,za q] 45)).alloc (zi #[zb 0,zb 0,zb 0,zb 0,za 0,za 0,za 0,za 0] 192)).heap.size:=(zE m);have k:Hid (w.cell? (zd 0)=some (zb 106)∧w.cell? ⟨0,1,none⟩=some (zb 108)∧w.cell? ⟨0,2,none⟩=some (zb 111)∧w.cell? ⟨0,3,none⟩=some (zb 103)):=⟨F,G,H,I⟩;obtain⟨C,D,E⟩:=aN z;have t:Hid (zr 0 0 w ((w.alloc (zi #[za c,za s,za q] 45)).alloc (zi #[zb 0,zb 0,zb 0,zb 0,za 0,za 0,za 0,za 0] 192))):=A
 have n:Hid (((w.alloc (zi #[za c,za s,za q] 45)).alloc (zi #[zb 0,zb 0,zb 0,zb 0,za 0,za 0,za 0,za 0] 192)).heap[w.heap.size+1]?=some (zi #[zb 0,zb 0,zb 0,zb 0,za 0,za 0,za 0,za 0] 192)):=m;have HS0:Hid (((w.alloc (zi #[za c,za s,za q] 45)).alloc (zi #[zb 0,zb 0,zb 0,zb 0,za 0,za 0,za 0,za 0] 192)).drew.cell? (zd w.heap.size)=some (za c)∧((w.alloc (zi #[za c,za s,za q] 45)).alloc (zi #[zb 0,zb 0,zb 0,zb 0,za 0,za 0,za 0,za 0] 192)).drew.cell? ⟨w.heap.size,1,none⟩=some (za s)∧((w.alloc (zi #[za c,za s,za q] 45)).alloc (zi #[zb 0,zb 0,zb 0,zb 0,za 0,za 0,za 0,za 0] 192)).drew.cell? ⟨w.heap.size,2,none⟩=some (za q)):=⟨C,D,E⟩
 clear A z m F G H I C D E;go_enter Tryz.func111,Tryz.ntmps111;go_upto_region 1 with fail;generalize ((w.alloc (zi #[za c,za s,za q] 45)).alloc (zi #[zb 0,zb 0,zb 0,zb 0,za 0,za 0,za 0,za 0] 192))=l at*;refine hRg (fun w':World=>w'.cell? (zd w.heap.size)=some (za c)∧w'.cell? ⟨w.heap.size,1,none⟩=some (za s)∧w'.cell? ⟨w.heap.size,2,none⟩=some (za q)) ?_;refine hTk 0 (zh w.heap.size) rfl (fun w' a=>by have f:=a.1;have g:=a.2.1;have h:=a.2.2;go_simp) HS0.out ?_
 go_simp;refine hTk 1 (za c) rfl (fun w' a=>by have f:=a.1;have g:=a.2.1;have h:=a.2.2;go_simp) HS0.out ?_;go_simp;refine hTk 2 (.pointer (some ⟨w.heap.size,2,none⟩)) rfl (fun w' a=>by have f:=a.1;have g:=a.2.1;have h:=a.2.2;go_simp) HS0.out ?_;go_simp;refine hTk 3 (za q) rfl (fun w' a=>by have f:=a.1;have g:=a.2.1;have h:=a.2.2;go_simp) HS0.out ?_;go_simp;refine hTk 5 (.pointer (some ⟨w.heap.size,1,none⟩)) rfl (fun w' a=>by have f:=a.1;have g:=a.2.1;have h:=a.2.2;go_simp) HS0.out ?_
 go_simp;refine hTk 6 (za s) rfl (fun w' a=>by have f:=a.1;have g:=a.2.1;have h:=a.2.2;go_simp) HS0.out ?_;go_simp;have b:Hid (zr 0 0 w l.drew):=t.drew;have o:Hid (l.drew.heap[w.heap.size+1]?=some (zi #[zb 0,zb 0,zb 0,zb 0,za 0,za 0,za 0,za 0] 192)):=n.out;have j:w.heap.size+1<l.drew.heap.size:=y;generalize l.drew=J at*;have B:=ZD J 1 c q (b.cell k.1) (b.cell k.2.1) (b.cell k.2.2.1) (b.cell k.2.2.2)
 refine hOn 4 rfl ?_;refine zv 122 #[za 1,za c,za q] zq B ?_;rintro e K ⟨rfl,h2⟩;have HS2:Hid (_∧_∧_):=⟨h2.cell HS0.1,h2.cell HS0.2.1,h2.cell HS0.2.2⟩;have u:Hid _:=b.trans h2;have p:Hid (K.heap[w.heap.size+1]?=some (zi #[zb 0,zb 0,zb 0,zb 0,za 0,za 0,za 0,za 0] 192)):=(h2.bk (w.heap.size+1) j).trans o;refine⟨_,rfl,HS2,?_⟩;clear B h2;go_simp;refine hTk 7 (.agg #[zb 106,zb 108,zb 111,zb 103,za 1,za c,za q,za s]) rfl (fun w' a=>by have f:=a.1;have g:=a.2.1;have h:=a.2.2;go_simp) HS2.out ?_
 go_simp;refine hOn 8 rfl ?_;refine wsR [zb 106,zb 108,zb 111,zb 103,za 1,za c,za q,za s] p ?_;intro L i d;have x:Hid (_∧_∧_):=⟨d.cell HS2.1,d.cell HS2.2.1,d.cell HS2.2.2⟩;have HC3:Hid _:=u.step d;have r:Hid _:=i;refine⟨x,?_⟩;clear i d;refine hDn ?_;go_wp2;have hb:=r.out;exact mT (v:= .agg #[zb 106,zb 108,zb 111,zb 103,za 1,za c,za q,za s]) (by simp[results,Tryz.results111,go_sem,World.cell?,hb]) rfl ⟨rfl,HC3.out⟩
theorem XO (cs:Array Value)(w:World):(Go.method 444 192 (.agg cs) "loop.example/s01525/impl.wrong").run Tryz.prog w= .ok (222,.agg cs) w:=zl
theorem JS (cs:Array Value)(w:World):(Go.method 444 192 (.agg cs) "loop.example/s01525/impl.encoded").run Tryz.prog w= .ok (221,.agg cs) w:=zl
theorem K3 (w:World)(h0 h1 h2 h3 kd a b c:Int)(t:0≤kd)(u:kd<256)(h:OkS a b c)(A:Byt (jP h0 h1 h2 h3 kd a b c)):
  Calls Tryz.prog 110 #[.iface 192 (.agg #[zb h0,zb h1,zb h2,zb h3,za kd,za a,za b,za c])] w fun e w'=> ∃g,e= .returned (zg g 64 64)∧zu w' w.heap.size 5 (zg g 64 64) (qz h0 h1 h2 h3 kd a b c)∧zr 0 0 w w':=by
 obtain⟨I,y,J,K,z,L⟩:=h;have B:=XS w h0 h1 h2 h3 kd a b c I y J K z L;have Q:=XO #[zb h0,zb h1,zb h2,zb h3,za kd,za a,za b,za c];have R:=JS #[zb h0,zb h1,zb h2,zb h3,za kd,za a,za b,za c];have f:=pn2 (v:=a);have i:=pn4 (v:=b) zk y;have j:=pn2 (v:=c) z;obtain⟨p,q⟩:=qP (jP h0 h1 h2 h3 kd a b c);have d:=pn4 p q;have C:=fun w=>J5 w h0 h1 h2 h3 kd a b c t u zk zk zk f i j d A;have D:=fun w=>Zx w (qz h0 h1 h2 h3 kd a b c) (KR f i j d)
 generalize qz h0 h1 h2 h3 kd a b c=M at*;clear f i j p q d A;go_enter Tryz.func110,Tryz.ntmps110;go_wp2_with fail;refine B.mono ?_;rintro e E ⟨rfl,l⟩;have G:Hid (zr 0 0 w E):=l;clear B l;go_wp2_with fail;refine(Qe E).mono ?_;rintro e O ⟨rfl,m⟩;have r:Hid (zr 0 0 w O):=G.trans m;clear m;go_wp2_with fail;refine(C _).mono ?_;rintro e P ⟨rfl,n⟩;have k:Hid (zr 0 0 w P):=r.trans n;clear n;go_wp2_with fail
 refine(D _).mono ?_;rintro e F ⟨g,rfl,x,o⟩;have s:Hid (zr 0 0 w F):=k.trans o;have H:Hid (zu F w.heap.size 5 (zg g 64 64) M):=x.base (fun g N=>by have:=(x.lt g N).1;have:=k.size;omega);clear o x C D;go_wp2;go_ret;exact⟨_,rfl,H,s⟩
theorem UG (w:World)(a c b:Int)(h:OkS a b c)(m:Byt (jP 106 108 111 103 1 a b c))
  (p:w.cell? (zd 0)=some (zb 106)) (q:w.cell? ⟨0,1,none⟩=some (zb 108)) (r:w.cell? ⟨0,2,none⟩=some (zb 111)) (s:w.cell? ⟨0,3,none⟩=some (zb 103)):
  Calls Tryz.prog 71 #[.agg #[za a,za c,za b]] w fun e w'=> ∃g,e= .returned (zg g 64 64)∧zu w' w.heap.size 5 (zg g 64 64) (qz 106 108 111 103 1 a b c)∧zr 0 0 w w':=by
 have d:zr 0 0 w (w.alloc (zi #[za a,za c,za b] 45)):=zr.al w;have n:=U6 (w.alloc (zi #[za a,za c,za b] 45)) a c b (d.cell p) (d.cell q) (d.cell r) (d.cell s);have u:Hid (zr 0 0 w (w.alloc (zi #[za a,za c,za b] 45))):=d;have o:=fun w=>K3 w 106 108 111 103 1 a b c zk zk h m;generalize qz 106 108 111 103 1 a b c=x at*;clear d p q r s m h;go_enter Tryz.func71,Tryz.ntmps71;go_wp2_with fail;generalize w.alloc (zi #[za a,za c,za b] 45)=w0 at*
 refine n.mono ?_;rintro e z ⟨rfl,i⟩;have f:Hid (zr 0 0 w z):=u.trans i;clear i n;go_wp2_with fail;refine(o _).mono ?_;rintro e t ⟨g,rfl,l,j⟩;have k:Hid (zr 0 0 w t):=f.trans j;have v:Hid (zu t w.heap.size 5 (zg g 64 64) x):=l.base (fun g y=>by have:=(l.lt g y).1;have:=f.size;omega);clear o l j;go_wp2;go_ret;exact⟨_,rfl,v,k⟩
theorem QC (h:zQ sz st sq hd us=true):OkS sz sq hd:=by
 unfold zQ at h;rw[Bool.and_eq_true,pJ] at h;obtain⟨⟨a,b⟩,⟨c,d⟩,_,⟨f,e⟩,_⟩:=h.1;exact⟨c,d,a,b,zk,e⟩
theorem YK (a b c:Int):Byt (jP 106 108 111 103 1 a b c):=by
 intro x hx;unfold jP at hx;simp only[nu] at hx;rcases hx with(((hx|hx)|hx)|hx)|hx
 ·simp at hx;omega
 ·exact qE _ _ x hx
 ·exact qE _ _ x hx
 ·exact qE _ _ x hx
 ·rw[sx] at hx;omega
abbrev jh (es:List Int):List Opx:= [(1,1,es),(2,0,[])]
theorem Uu (w:World)(base g c:Nat)(k:List Int)(m:base≤w.heap.size)(q:zu w base 5 (zg g 64 c) k):
  ∃a f,zL (w.alloc (zi #[za 1,za 1,zg g 64 c,za 2,za 0,zc] 71)) base 71 5 (zg w.heap.size 2 2) (jh k) a f:=by
 have d:=nK (base:=base) (e:=71) (size:=3) w #[za 1,za 1,zg g 64 c,za 2,za 0,zc] 2 m (by unfold maxLen;omega) rfl;have l:zr 0 0 w (w.alloc (zi #[za 1,za 1,zg g 64 c,za 2,za 0,zc] 71)):=zr.al w;refine⟨[za 1,za 1,zg g 64 c,za 2,za 0,zc],fun i=>if i=0 then zg g 64 c else zc,?_,?_,?_,?_,?_,?_⟩
 ·simpa using d
 ·intro i hi;rcases i with _|_|i
  ·rfl
  ·rfl
  ·have b:i+1+1<2:=hi;omega
 ·intro i hi;rcases i with _|_|i
  ·rfl
  ·rfl
  ·have b:i+1+1<2:=hi;omega
 ·intro i hi;rcases i with _|_|i
  ·rfl
  ·rfl
  ·have b:i+1+1<2:=hi;omega
 ·intro i hi;rcases i with _|_|i
  ·exact q.chg l (by intro g _;omega)
  ·exact⟨rfl,Or.inl ⟨rfl,rfl⟩⟩
  ·have b:i+1+1<2:=hi;omega
 ·intro i j r n o;rcases j with _|_|j
  ·omega
  ·intro _ h;simp[Value.ownBlock] at h
  ·have p:j+1+1<2:=o;omega
theorem KQ (w:World)(sz h c b i:Int)(p:zQ sz h c b i=true)
  (q:w.cell? (zd 0)=some (zb 106)) (r:w.cell? ⟨0,1,none⟩=some (zb 108)) (s:w.cell? ⟨0,2,none⟩=some (zb 111)) (t:w.cell? ⟨0,3,none⟩=some (zb 103)):
  Calls Tryz.prog 32 #[.agg #[za sz,za h,za c,za b,za i]] w fun e w'=> ∃g,e= .returned (zg g 2 2)∧(∃a d,zL w' w.heap.size 71 5 (zg g 2 2) (jh (qz 106 108 111 103 1 sz c b)) a d)∧zr 0 0 w w':=by
 have f:zr 0 0 w (w.alloc (zi #[za sz,za h,za c,za b,za i] 30)):=zr.al w;have o:=UG (w.alloc (zi #[za sz,za h,za c,za b,za i] 30)) sz b c (QC p) (YK _ _ _) (f.cell q) (f.cell r) (f.cell s) (f.cell t);have n:Hid (zr 0 0 w (w.alloc (zi #[za sz,za h,za c,za b,za i] 30))):=f;clear f q r s t p;go_enter Tryz.func32,Tryz.ntmps32;go_wp2_with fail;generalize w.alloc (zi #[za sz,za h,za c,za b,za i] 30)=w0 at*
 refine o.mono ?_;rintro e j ⟨g,rfl,m,h1⟩;have k:Hid (zr 0 0 w j):=n.trans h1;have y:=k.size;have u:Hid (zu j w.heap.size 5 (zg g 64 64) (qz 106 108 111 103 1 sz c b)):=m.base (fun g x=>by have:=(m.lt g x).1;have:=n.size;omega);have v:Hid (∃a d,zL (j.alloc (zi #[za 1,za 1,zg g 64 64,za 2,za 0,zc] 71)) w.heap.size 71 5 (zg j.heap.size 2 2) (jh (qz 106 108 111 103 1 sz c b)) a d):=Uu j w.heap.size g 64 _ y u
 have l:Hid (zr 0 0 w (j.alloc (zi #[za 1,za 1,zg g 64 64,za 2,za 0,zc] 71))):=k.alloc _;clear o m h1;go_wp2;go_ret;exact⟨_,rfl,v,l⟩
theorem lC (h:w.heap[s]?=some (zi #[a,b,c] t)):
  (w.cell? (zd s)=some a∧w.cell? ⟨s,1,none⟩=some b∧w.cell? ⟨s,2,none⟩=some c)∧w.frozen? (zd s)=false∧w.frozen? ⟨s,1,none⟩=false∧w.frozen? ⟨s,2,none⟩=false:=by
 simp[World.cell?,World.frozen?,h]
theorem YL (h:OkS sz sq hd):(qz 106 108 111 103 1 sz sq hd).length=64:=by
 obtain⟨e,c,f,g,d,i⟩:=h;obtain⟨a,b⟩:=qP (jP 106 108 111 103 1 sz sq hd);exact KR (pn2) (pn4 zk c) (pn2 d) (pn4 a b)
theorem bN (w:World)(sz i b a m:Int)(h:OkS sz b a):
  Calls Tryz.prog 40 #[.agg #[za sz,za i,za b,za a,za m],za a] w fun e w'=> ∃g cp,e= .returned (.agg #[za 1,za 1,zg g 64 cp])∧zu w' w.heap.size 5 (zg g 64 cp) (qz 106 108 111 103 1 sz b a)∧zr 0 0 w w':=by
 obtain⟨J,D,t⟩:=zU w (zi #[za sz,za i,za b,za a,za m] 30) (zi #[za 0,za 0,zc] 71);have r:zr 0 0 w ((w.alloc (zi #[za sz,za i,za b,za a,za m] 30)).alloc (zi #[za 0,za 0,zc] 71)):=(zr.al w).alloc _;have s:=fun w=>Q9 w sz a b h (YK _ _ _);have p:Hid ((qz 106 108 111 103 1 sz b a).length=64):=YL h;clear h;go_enter Tryz.func40,Tryz.ntmps40;go_wp2_with fail;generalize (w.alloc (zi #[za sz,za i,za b,za a,za m] 30)).alloc (zi #[za 0,za 0,zc] 71)=w0 at*
 refine(s _).mono ?_;rintro e f ⟨v,rfl,d,h1⟩;have F:=h1.size;obtain⟨g,cp,rfl⟩: ∃g c,v=zg g 64 c:=by
  rcases d.2 with⟨_,h0⟩|⟨g,x,u,rfl,_⟩
  ·rw[p.out] at h0;omega
  ·exact⟨g,x,by rw[p.out]⟩
 have z:=d.lt g rfl;have n:Hid (zr 0 0 w f):=r.trans h1;obtain⟨⟨G,H,I⟩,A,B,C⟩:=lC ((h1.bk (w.heap.size+1)).trans t);have HO:Hid (∀j k l:Value,zu (((f.setCell (zd (w.heap.size+1)) j).setCell ⟨w.heap.size+1,1,none⟩ k).setCell ⟨w.heap.size+1,2,none⟩ l) w.heap.size 5 (zg g 64 cp) (qz 106 108 111 103 1 sz b a)∧zr 0 0 w (((f.setCell (zd (w.heap.size+1)) j).setCell ⟨w.heap.size+1,1,none⟩ k).setCell ⟨w.heap.size+1,2,none⟩ l)):=by
  intro j k l;have q:zr (w.heap.size+1) (w.heap.size+1+1) f (((f.setCell (zd (w.heap.size+1)) j).setCell ⟨w.heap.size+1,1,none⟩ k).setCell ⟨w.heap.size+1,2,none⟩ l):=by
   refine zr.setCell (zr.setCell (zr.setCell (zr.refl _ _ _) ?_ _) ?_ _) ?_ _<;>exact Or.inl ⟨mP _,m5 _⟩
  exact⟨(d.base (fun g y=>by have:=(d.lt g y).1;omega)).chg q (fun E o=>by cases o;show g<w.heap.size+1∨w.heap.size+1+1≤g;omega),n.out.step q⟩
 clear d h1 s D t r;go_wp2;exact mT (v:= .agg #[za 1,za 1,zg g 64 cp]) (by simp[results,Tryz.results40,go_sem, *]) rfl ⟨g,cp,rfl,(HO.out _ _ _).1,(HO.out _ _ _).2⟩
theorem Tryz.infoOp:(Tryz.prog.info? 71).map (fun i=>(i.zero,i.size,i.bytes))=some (some (.agg #[za 0,za 0,zc]),3,40):=zl
theorem zL.base {base base':Nat}{os:List Opx}(h:zL w base eO eB v os cells dvs)(c:base'≤base:=by omega):zL w base' eO eB v os cells dvs:=by
 refine⟨?_,h.at0,h.at1,h.at2,fun i hi=>(h.data i hi).base (fun g b=>nz c ((h.data i hi).lt g b).1),h.apart⟩;obtain⟨h1,h2⟩:=h.row;refine⟨h1,?_⟩;rcases h2 with h2|⟨g,cap,a,d,b,r⟩
 ·exact Or.inl h2
 ·exact Or.inr ⟨g,cap,a,d,zk,r⟩
theorem zL.join {base base2:Nat}{v2 v':Value}{os ts:List Opx}{cells2:List Value}{dvs2:Nat→Value}(h:zL w base eO eB v os cells dvs)(h2:zL w base2 eO eB v2 ts cells2 dvs2)
  (c:w'.ownsRow base eO 3 v' (os.length+ts.length) (cells++cells2)) (n: ∀i,i<os.length→zu w' base eB (dvs i) (os.getD i Opx.zero).2.2) (f: ∀i,i<ts.length→zu w' base eB (dvs2 i) (ts.getD i Opx.zero).2.2)
  (k: ∀i j g,i<os.length→j<ts.length→(dvs i).ownBlock=some g→(dvs2 j).ownBlock≠some g):
  zL w' base eO eB v' (os++ts) (cells++cells2) (fun i=>if i<os.length then dvs i else dvs2 (i-os.length)):=by
 have m:cells.length=os.length*3:=h.row.1;have a: ∀i,i<os.length→(os++ts).getD i Opx.zero=os.getD i Opx.zero:=fun i e=>by rw[mV,mV,nZ e]
 have b: ∀i,¬i<os.length→(os++ts).getD i Opx.zero=ts.getD (i-os.length) Opx.zero:=fun i e=>by rw[mV,mV,oM zk]
 refine⟨by rw[mL];exact c,?_,?_,?_,?_,?_⟩
 ·intro i hi;rw[mL] at hi;by_cases e:i<os.length
  ·rw[nZ zk,h.at0 i e,a i e]
  ·rw[oM zk,m,b i e,show i*3-os.length*3=(i-os.length)*3 by omega,h2.at0 _ zk]
 ·intro i hi;rw[mL] at hi;by_cases e:i<os.length
  ·rw[nZ zk,h.at1 i e,a i e]
  ·rw[oM zk,m,b i e,show i*3+1-os.length*3=(i-os.length)*3+1 by omega,h2.at1 _ zk]
 ·intro i hi;rw[mL] at hi;by_cases e:i<os.length
  ·rw[nZ zk,h.at2 i e,mM e]
  ·rw[oM zk,m,mN e,show i*3+2-os.length*3=(i-os.length)*3+2 by omega,h2.at2 _ zk]
 ·intro i hi;rw[mL] at hi;by_cases e:i<os.length
  ·show zu w' base eB (if i<os.length then dvs i else dvs2 (i-os.length)) _;rw[mM e,a i e];exact n i e
  ·show zu w' base eB (if i<os.length then dvs i else dvs2 (i-os.length)) _;rw[mN e,b i e];exact f _ zk
 ·intro i j g l o;rw[mL] at o;by_cases e:i<os.length
  ·rw[mM e];by_cases d:j<os.length
   ·rw[mM d];exact h.apart i j g l d
   ·rw[mN d];exact k i _ g e zk
  ·rw[mN e,mN zk];exact h2.apart _ _ g zk zk
theorem Er (A:Array Value)(d:A.size=3)(a b c:Value):Instr.fill (fun i=>some (i*3,3)) A [(0,.agg #[a,b,c])]=some #[a,b,c]:=by
 obtain⟨l⟩:=A
 match l,d with
 | [x,y,z],_=>simp[Instr.fill,Value.cells]
theorem jD (w:World)(base:Nat)(q a:Int)(b:Value)(ys:List Int)(f:base≤w.heap.size)(m:zu w base 5 b ys):
  zL (w.alloc (zi #[za q,za a,b] 71)) base 71 5 (zg w.heap.size 1 1) [(q,a,ys)] [za q,za a,b] (fun _=>b):=by
 have c:=World.ownsRow_lit (base:=base) (e:=71) (size:=3) w #[za q,za a,b] 1 f (by unfold maxLen;omega) rfl;have d:zr 0 0 w (w.alloc (zi #[za q,za a,b] 71)):=zr.al w;have h1: ∀i,i<1→i=0:=fun i h=>zk;refine⟨by simpa using c,?_,?_,?_,?_,?_⟩
 ·intro i hi;obtain rfl:=h1 i hi;rfl
 ·intro i hi;obtain rfl:=h1 i hi;rfl
 ·intro i hi;obtain rfl:=h1 i hi;rfl
 ·intro i hi;obtain rfl:=h1 i hi;exact m.chg d (by intro g _;omega)
 ·intro i j g k l;have:=h1 j l;omega
theorem eC {P:Program}(w:World)(base:Nat)(t B e:TypeId)(i:TypeInfo)(z:Value)(size l:Nat)(F:P.underlying t=some (.slice e))(hi:P.info? e=some i)(K:i.zero=some z)
  (h:i.size=size) (p:i.bytes=l) (L:z.cells.size=size) (H:0<size)
  (v:Value) (n:Nat) (xs:List Value) (k:w.ownsRow base e size v n xs)
  (a:Addr) (m c:Nat) (b:List Value) (D:b.length=m*size) (f: ∀j u,b[j]?=some u→w.cell? (a.add j)=some u) (h1: ∀u∈b,u.oneCell'=true)
  (A:n+m≤maxLen) (d:(n+m)*l≤140737488355328) (o:base≤w.heap.size) (X:0<m):
  ∃C w',(Builtin.append_ #[t,t] B #[v,zj (some a) m c]).run P w= .ok C w'∧w'.ownsRow base e size C (n+m) (xs++b)∧w.grownBy w' v.ownBlock∧(∀g,C.ownBlock=some g→v.ownBlock=some g∨w.heap.size≤g):=by
 obtain⟨C,w',s,h2,h3,_⟩:=run_append_own (P:=P) w base t B e i z size l F hi K h p L H v n xs k a m c b D f h1 A d o;refine⟨C,w',s,h2,h3,?_⟩;have E:n+m≤9223372036854775807:=by simp only[maxLen] at A;omega
 rcases k.2 with⟨J,V⟩|⟨g,cap,O,J,S,N,W,T,U,I⟩
 ·subst h;subst p;subst J;subst V;rw[run_append_nil (P:=P) w t B e i z F hi K a m c b D f zk zk (by have R:=d;simp only[ni] at R;omega)] at s;injection s with y M;subst y;intro g N;simp[Value.ownBlock] at N;exact Or.inr zk
 ·subst J;by_cases x:n+m≤cap
  ·obtain⟨Y,G,_,_⟩:=run_append_own_spare (P:=P) w base t B e i size F hi h g n cap xs k a m c b D f h1 x;rw[G] at s;injection s with y M;subst y;exact fun Q q=>Or.inl q
  ·subst h;subst p;have r: ∀j u,xs[j]?=some u→w.cell? (((zd g):Addr).add j)=some u:=k.cells (g:=g) rfl;rw[run_append_grow (P:=P) w t B e i z F hi K (zd g) n cap xs k.1 r a m c b D f zk zk (growslice_fits zk d)] at s;injection s with y M;subst y;intro Q q;simp[Value.ownBlock] at q;exact Or.inr zk
theorem ju {o:Oper}{a:Act}{K:Act→World→Prop}{Q:Exit→Act→World→Prop}(s x:Operand)
  (ho:o.op= .call {callee:= .builtin .append,args:= #[s,x],argTypes:= #[39,39]}) (base N:Nat) (v T:Value) (os ts:List Opx) (f b:List Value) (n k:Nat→Value)
  (hs:a.eval s=v) (d:zL w base 71 5 v os f n) (hx:a.eval x=T) (c:zL w N 71 5 T ts b k) (hN:base≤N) (p:base≤w.heap.size)
  (h0:0<ts.length) (hk:os.length+ts.length≤2097152)
  (I: ∀i j g,i<os.length→j<ts.length→(n i).ownBlock=some g→(k j).ownBlock≠some g)
  (h: ∀y w',(∃g cap,y=zg g (os.length+ts.length) cap)→zL w' base 71 5 y (os++ts) (f++b) (fun i=>if i<os.length then n i else k (i-os.length))→w.grownBy w' v.ownBlock→
   (∀g,y.ownBlock=some g→v.ownBlock=some g∨w.heap.size≤g)→K (a.put o.dst y) w'):o.wp Tryz.prog a w K Q:=by
 obtain⟨i,hi,O,R,S⟩:=info_parts Tryz.infoOp;have r:=c.row;obtain⟨t,z,rfl⟩: ∃t z,T=zg t ts.length z:=by
  rcases r.2 with⟨_,h'⟩|⟨t,z,_,e,_⟩
  ·omega
  ·exact⟨t,z,e⟩
 have J:b.length=ts.length*3:=r.1;have F: ∀j u,b[j]?=some u→w.cell? (((zd t):Addr).add j)=some u:=by
  intro j u l;have aa:j<b.length:=(nD.1 l).1;rw[Addr.add_mid,ni,nA r j zk];exact l
 have E: ∀u∈b,u.oneCell'=true:=by
  intro u G;obtain⟨j,l,rfl⟩:=r7.1 G;have H:j/3<ts.length:=zk;have hm:j % 3=0∨j % 3=1∨j % 3=2:=zk;have M:b[j]?=some b[j]:=mZ l;rcases hm with hm|hm|hm
  ·have:=c.at0 (j/3) H;rw[show j/3*3=j by omega,M] at this;rw[pC this];rfl
  ·have:=c.at1 (j/3) H;rw[show j/3*3+1=j by omega,M] at this;rw[pC this];rfl
  ·have:=c.at2 (j/3) H;rw[show j/3*3+2=j by omega,M] at this;rw[pC this];rcases(c.data (j/3) H).2 with⟨e,_⟩|⟨_,_,_,e,_⟩<;>rw[e]<;>rfl
 obtain⟨y,w',hr,h1,h2,h3⟩:=eC (P:=Tryz.prog) w base 39 o.type 71 i _ 3 40 Tryz.underlying39 hi O R S rfl zk v os.length _ d.row (zd t) ts.length z b J F E (by unfold maxLen;omega) zk p h0;have W: ∀j,j<w.heap.size→v.ownBlock≠some j→w'.heap[j]?=w.heap[j]?:=fun j l D=>h2.block j l (fun e=>D e.symm);have L: ∀j,v.ownBlock=some j→ ∃m,w.heap[j]?=some (zi m 71):=fun j l=>zK d.row l;have V: ∀ {N':Nat} {u:Value} {ys:List Int},zu w N' 5 u ys→zu w' N' 5 u ys:=fun G=>G.same (fun j l=>W j (G.lt j l).2 (fun e=>by obtain⟨m,B⟩:=L _ e;obtain⟨U,q⟩:=G.elem l;exact qf B q zp rfl))
 have C:=h y w' (by
  rcases h1.2 with⟨_,Z⟩|⟨Y,A,m,X,_⟩
  ·omega
  ·exact⟨Y,A,X⟩) (d.join c h1 (fun i hi=>V (d.data i hi)) (fun i hi=>(V (c.data i hi)).base (fun g hg=>nz hN ((c.data i hi).lt g hg).1)) I) h2 h3
 unfold Oper.wp execOp;simp only[ho,resolve,invoke,builtin,Sem.run_bind,Sem.run_pure,Result.andThen_ok,List.map_toArray,nR,pU,hs,hx,hr];exact C
theorem zC.part {b off cap:Nat}{k:IntKind}(h:zC w lo hi k (zj (some ⟨b,off,none⟩) xs.length cap) xs)(g:l+n≤xs.length)(s:0<n)(c:Nat)(p:n≤c:=by omega):
  zC w lo hi k (zj (some ⟨b,off+l,none⟩) n c) ((xs.drop l).take n):=by
 have a:((xs.drop l).take n).length=n:=by rw[mW,m8];omega
 obtain⟨q,d,e,h0,_,h1⟩:=h;simp only[Value.slice.injEq] at e;obtain⟨m,_,_⟩:=e;rcases h1 with h1|⟨r,j,f,h2,h3,o⟩
 ·rw[h1] at g;simp at g;omega
 ·rw[←m] at f
  cases f
  refine⟨_,c,by rw[a],by rw[a];omega,⟨by rw[a];exact p,zn⟩,Or.inr ⟨b,off+l,rfl,h2,h3,fun i hi=>?_⟩⟩;rw[a] at hi;rw[pm,o (l+i) zk];simp only[mV,oA,oQ];rw[mM hi]
theorem zL.nil (w:World)(base:Nat)(a:base≤w.heap.size):zL (w.alloc (zi #[] 71)) base 71 5 (zg w.heap.size 0 0) [] [] (fun _=>zc):=by
 have:=World.ownsRow_lit (base:=base) (e:=71) (size:=3) w #[] 0 a (by unfold maxLen;omega) rfl;exact⟨by simpa using this,fun i h=>absurd h (nW i),fun i h=>absurd h (nW i),fun i h=>absurd h (nW i),fun i h=>absurd h (nW i),fun _ j _ _ h=>absurd h (nW j)⟩
theorem Zm {N:Nat}{nv:Value}{os:List Opx}(a: ∀i g,i<os.length→(dvs i).ownBlock=some g→g<N)(c: ∀g,nv.ownBlock=some g→N≤g):
  ∀(i j:Nat) (g:Nat),i<os.length→j<1→(dvs i).ownBlock=some g→nv.ownBlock≠some g:=fun i j g hi _ b e=>by have:=a i g hi b;have:=c g e;omega
end Go.Proofs.YthdeofoleiiibaaGreatDoor
