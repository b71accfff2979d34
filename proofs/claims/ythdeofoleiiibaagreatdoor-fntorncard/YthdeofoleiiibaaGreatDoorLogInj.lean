import Derived.Test.YthdeofoleiiibaaGreatDoorSpecKind
namespace Go.Proofs.YthdeofoleiiibaaGreatDoor
open Go.RowKit
set_option maxRecDepth 100000
set_option maxHeartbeats 16000000
variable {w W W':World}{lo hi base sz g B i cap n:Nat}{q:Int}{a hv rv v:Value}{xs rs D:List Int}{bs:List (List Int)}
theorem Ny (w:World)(xs:List Int)(b f cap:Nat)(h:Byt xs)
  (H:xs.length≤9223372036854775807)
  (h1: ∀i,i<xs.length→w.cell? ⟨b,f+i,none⟩=some (zb (xs.getD i 0))):
  Calls Tryz.prog 51 #[zj (some ⟨b,f,none⟩) xs.length cap] w fun e w'=>e= .returned (za (qI xs))∧qj w w':=by
 by_cases I:xs.length=0
 ·have d:qI xs= -1:=by unfold qI;rw[mM zk]
  have hi:(xs.length:Int)<1:=zk;rw[d];go_enter Tryz.func51,Tryz.ntmps51;go_wp2
  all_goals go_ret
  all_goals exact⟨rfl,qj.refl _⟩
 by_cases G:8<xs.length
 ·have d:qI xs= -1:=by unfold qI;rw[mM zk]
  have hi: ¬(xs.length:Int)<1:=zk;have p:(xs.length:Int)>8:=zk;rw[d];go_enter Tryz.func51,Tryz.ntmps51;go_wp2
  all_goals go_ret
  all_goals exact⟨rfl,qj.refl _⟩
 have t: ¬(xs.length:Int)<1:=zk;have o: ¬(xs.length:Int)>8:=zk;have j:=h1 0 zk;have B:=h.getD 0;by_cases h8:xs.length=8∧127<xs.getD 0 0
 ·have d:qI xs= -1:=by unfold qI;rw[mM zk]
  rw[d];obtain⟨h8,a⟩:=h8;rw[oF] at j;generalize xs.getD 0 0=z at*;clear h1;rw[h8];go_enter Tryz.func51,Tryz.ntmps51;go_wp2
  all_goals go_ret
  all_goals exact⟨rfl,qj.refl _⟩
 have d:qI xs=num xs:=by unfold qI;rw[mN zk]
 have a:xs.length=8→xs.getD 0 0≤127:=zk;rw[d];have g:=iE h zk a;rw[oF] at j;have n:Hid (∀i,i<xs.length→w.cell? ⟨b,f+i,none⟩=some (zb (xs.getD i 0))):=h1;have m:Hid (Byt xs):=h;have A:Hid (¬(xs.length=8∧127<xs.getD 0 0)):=h8;clear d h1 h h8;have r:(((xs.length:Int)==8)=true∧ ¬xs.getD 0 0>127)∨((xs.length:Int)==8)=false:=by
  by_cases e:xs.length=8
  ·left;have:=a e;exact⟨by rw[e];rfl,zk⟩
  ·right;simp;omega
 clear a;generalize xs.getD 0 0=z at*;rcases r with⟨h8,s⟩|h8
 all_goals
  go_enter Tryz.func51,Tryz.ntmps51
  go_wp2
  go_loop [3,4] (fun v i=> ∃k:Nat,k≤xs.length∧i=za k∧v=za (num (xs.take k))) (fun _ i=>xs.length-(intOf i).toNat)
  case atStart=>exact⟨0,mX _,rfl,rfl⟩
  case round=>
   obtain⟨k,q,rfl,rfl⟩:=hrel;by_cases c:k<xs.length
   ·have F:=n.out k c;have e:=Qk xs k c;have C:=g k q;have D:=g (k+1) c;have E:=m.getD k;have hi:(k:Int)<(xs.length:Int):=zk;generalize xs.getD k 0=x at*;generalize num (xs.take k)=u at*;generalize l:num (xs.take (k+1))=y at*;have HU:Hid (num (xs.take (k+1))=y):=l;clear l;go_wp2;go_round
    case rel=>exact⟨k+1,zk,by go_num,by rw[HU.out];go_num⟩
    case measure=>simp[intOf];omega
   ·obtain rfl:k=xs.length:=zk;rw[nV];go_wp2;go_ret;exact⟨rfl,qj.refl _⟩
theorem Nw (w:World)(a:Option Addr)(cap:Nat):
  Calls Tryz.prog 51 #[zj a 0 cap] w fun e w'=>e= .returned (za (-1))∧qj w w':=by
 go_enter Tryz.func51,Tryz.ntmps51;go_wp2;go_ret;exact⟨rfl,qj.refl _⟩
theorem jt (w:World)(d:Byt xs)(h1:zC w lo hi .u8 a xs):
  Calls Tryz.prog 51 #[a] w fun e w'=>e= .returned (za (qI xs))∧qj w w':=by
 obtain⟨c,cap,rfl,f,_,h1⟩:=h1;rcases h1 with rfl|⟨x,b,rfl,_,_,h1⟩
 ·exact Nw w c cap
 ·exact Ny w xs x b cap d f h1
structure ZAt (T:TypeId)(w0 W:World):Prop where
 c:zr 0 0 w0 W
 s:w0.heap.size<W.heap.size
 b:W.heap[w0.heap.size]?=some (zi #[za 0,za 0,za 0] T)
theorem QX {T:TypeId}{w0:World}(h:qj w0 W):ZAt T w0 (W.alloc (zi #[za 0,za 0,za 0] T)):=by
 have hs:W.heap.size=w0.heap.size:=by rw[h.heap]
 have a:=zt W (zi #[za 0,za 0,za 0] T);rw[hs] at a;exact⟨(h.chg 0 0).trans (zr.al W),by simp[hs],a⟩
theorem ZAt.same {T:TypeId}{w0:World}(h:ZAt T w0 W)(k:qj W W'):ZAt T w0 W':=⟨h.c.trans (k.chg 0 0),by rw[k.heap];exact h.s,by rw[k.heap];exact h.b⟩
abbrev rV4 (g:Bool) (b l n:Int):Value:= .agg #[.bool g,za b,za l,za n]
theorem qO {s:Nat}{b c d:Value}{t:TypeId}(h:w.heap[s]?=some (zi #[a,b,c,d] t)):
  (w.cell? (zd s)=some a∧w.cell? ⟨s,1,none⟩=some b∧w.cell? ⟨s,2,none⟩=some c∧w.cell? ⟨s,3,none⟩=some d)∧w.frozen? (zd s)=false∧w.frozen? ⟨s,1,none⟩=false∧w.frozen? ⟨s,2,none⟩=false∧w.frozen? ⟨s,3,none⟩=false:=by
 simp[World.cell?,World.frozen?,h]
theorem J1 {w5:World}(h:zr 0 0 w w5)(a b c d:Value):zr 0 0 w ((((w5.setCell (zd w.heap.size) a).setCell ⟨w.heap.size,1,none⟩ b).setCell ⟨w.heap.size,2,none⟩ c).setCell ⟨w.heap.size,3,none⟩ d):=by
 refine h.step (l:=w.heap.size) (r:=w.heap.size+1) ?_ (Or.inr (Or.inl nlR));refine zr.setCell (zr.setCell (zr.setCell (zr.setCell (zr.refl _ _ _) ?_ _) ?_ _) ?_ _) ?_ _<;>exact Or.inl ⟨mP _,m5 _⟩
theorem Qw (w:World)(l:Byt xs)(k:zC w lo hi .u8 a xs)(g:kindOf xs≠4):
  Calls Tryz.prog 132 #[a] w fun e w'=>e= .returned (rV4 false 0 0 0)∧zr 0 0 w w':=by
 have d:zr 0 0 w (w.alloc (zi #[.bool false,za 0,za 0,za 0] 220)):=zr.al w;have c:=jw _ l (k.chg d zk);obtain⟨ao,cap,rfl,-⟩:=k;have j:Hid _:=d;have i:Hid _:=zt w (zi #[.bool false,za 0,za 0,za 0] 220);obtain⟨h,b⟩: ∃h,h=kindOf xs:=⟨_,rfl⟩;change Calls _ _ _ _ fun e w'=>e= .returned (za (kindOf xs))∧zr 0 0 _ w' at c;rw[←b] at c g;have m:(h !=(4:Int))=true:=by simp[g]
 clear b g d;have hs:w.heap.size<(w.alloc (zi #[.bool false,za 0,za 0,za 0] 220)).heap.size:=zn;go_enter Tryz.func132,Tryz.ntmps132;go_wp2_with fail;generalize w.alloc (zi #[.bool false,za 0,za 0,za 0] 220)=w0 at*;refine c.mono ?_;rintro e r ⟨rfl,f⟩;obtain⟨⟨s,t,u,x⟩,n,o,p,q⟩:=qO ((f.bk _ hs).trans i);have HC1:Hid _:=J1 (j.trans f);clear c f i j hs;go_wp2;exact mT (v:=rV4 false 0 0 0) (by simp[results,Tryz.results132,go_sem,rV4, *]) rfl ⟨rfl,HC1.out _ _ _ _⟩
theorem KW (w:World){n0 n1 n2:Int}(hB:Byt xs)(hv:zC w lo hi .u8 a xs)(hk:kindOf xs=4)(C:xs.length=64)
  (g0:qI ((xs.drop 8).take 4)=n0) (g1:qI ((xs.drop 6).take 2)=n1) (g2:qI ((xs.drop 12).take 4)=n2)
  (hE: ∀W:World,Calls Tryz.prog 49 #[.agg #[za n0,za n1,za n2]] W fun e w'=> ∃v,e= .returned v∧zu w' W.heap.size 5 v xs∧zr 0 0 W w'):
  Calls Tryz.prog 132 #[a] w fun e w'=>e= .returned (rV4 true n0 n1 n2)∧zr 0 0 w w':=by
 have B:Hid (zC w lo hi .u8 a xs):=hv;obtain⟨ao,cap,rfl,aw,⟨ak,_⟩,H⟩:=hv;have C0:zr 0 0 w (w.alloc (zi #[.bool false,za 0,za 0,za 0] 220)):=zr.al w;have hK:=jw _ hB (B.chg C0 zk);have hs:w.heap.size<(w.alloc (zi #[.bool false,za 0,za 0,za 0] 220)).heap.size:=zn;have HB:Hid _:=zt w (zi #[.bool false,za 0,za 0,za 0] 220);have HC:Hid _:=C0;have HE:Hid _:=hE;change Calls _ _ _ _ fun e w'=>e= .returned (za (kindOf xs))∧zr 0 0 _ w' at hK
 rw[hk] at hK;obtain⟨b,d,rfl,_,_,_⟩:=H.resolve_left (fun h=>by rw[h] at C;cases C);have p:Hid (xs.length=64):=C;have F:Hid (Byt xs):=hB;rw[C] at B ak hK;rw[C];have av:(12:Int)≤(cap:Int):=zk;have az: ¬cap=8:=zk;have au:(8:Int)≤(cap:Int):=zk;have ay: ¬cap=6:=zk;have aq:(16:Int)≤(cap:Int):=zk;have ar: ¬cap=12:=zk;have N:Hid (∀W,zr 0 0 w W→Calls Tryz.prog 51 #[zj (some ⟨b,d+8,none⟩) 4 (cap-8)] W fun e w'=>e= .returned (za n0)∧qj W w'):=fun W h=>g0▸jt W ((F.out.drop 8).take 4) ((zC.part (l:=8) (n:=4) (by rw[p.out];exact B.out) (by rw[p.out];omega) zk (cap-8)).chg h zk)
 have L:Hid (∀W,zr 0 0 w W→Calls Tryz.prog 51 #[zj (some ⟨b,d+6,none⟩) 2 (cap-6)] W fun e w'=>e= .returned (za n1)∧qj W w'):=fun W h=>g1▸jt W ((F.out.drop 6).take 2) ((zC.part (l:=6) (n:=2) (by rw[p.out];exact B.out) (by rw[p.out];omega) zk (cap-6)).chg h zk);have G:Hid (∀W,zr 0 0 w W→Calls Tryz.prog 51 #[zj (some ⟨b,d+12,none⟩) 4 (cap-12)] W fun e w'=>e= .returned (za n2)∧qj W w'):=fun W h=>g2▸jt W ((F.out.drop 12).take 4) ((zC.part (l:=12) (n:=4) (by rw[p.out];exact B.out) (by rw[p.out];omega) zk (cap-12)).chg h zk)
 clear hE hk C hB H C0 g0 g1 g2;go_enter Tryz.func132,Tryz.ntmps132;go_wp2_with fail;generalize w.alloc (zi #[.bool false,za 0,za 0,za 0] 220)=wA at*;refine hK.mono ?_;rintro e w0 ⟨rfl,c1⟩;have s1:=c1.size;have X:Hid _:=(c1.bk _ hs).trans HB;have k:Hid _:=HC.trans c1;have am:w.heap.size<w0.heap.size:=zk;clear hK c1 HB HC hs s1;go_upto_region 3 with fail;go_cut [3] (fun s3 wx=>s3=zh w0.heap.size∧zr 0 0 w0 wx∧w0.heap.size<wx.heap.size∧wx.heap[w0.heap.size]?=some (zi #[za n0,za n1,za n2] 91))
 case first=>
  refine hRg (fun _=>True) ?_;have S0:qj w0 w0.drew:=(qj.refl w0).drew;generalize w0.drew=wd at*;refine hTk 0 (zj (some ⟨b,d,none⟩) 64 cap) rfl (fun w' o=>zm) trivial ?_;go_simp;refine hTk 1 (zj (some ⟨b,d+8,none⟩) 4 (cap-8)) rfl (fun w' o=>zm) trivial ?_;go_simp;refine hTk 3 (zj (some ⟨b,d,none⟩) 64 cap) rfl (fun w' o=>zm) trivial ?_;go_simp;refine hTk 4 (zj (some ⟨b,d+6,none⟩) 2 (cap-6)) rfl (fun w' o=>zm) trivial ?_
  go_simp;refine hTk 6 (zj (some ⟨b,d,none⟩) 64 cap) rfl (fun w' o=>zm) trivial ?_;go_simp;refine hTk 7 (zj (some ⟨b,d+12,none⟩) 4 (cap-12)) rfl (fun w' o=>zm) trivial ?_;go_simp;refine qY 2 10 rfl rfl rfl rfl zl ?_ ?_
  ·refine zv 51 #[zj (some ⟨b,d+8,none⟩) 4 (cap-8)] zq (N.out wd (k.out.trans (S0.chg 0 0))) ?_;rintro e S ⟨rfl,t⟩;have x:Hid _:=S0.trans t;clear t;refine⟨_,rfl,trivial,?_⟩;go_simp;refine qY 5 10 rfl rfl rfl rfl zl ?_ ?_
   ·refine zv 51 #[zj (some ⟨b,d+6,none⟩) 2 (cap-6)] zq (L.out S (k.out.trans (x.out.chg 0 0))) ?_;rintro e J ⟨rfl,t⟩;have m:Hid _:=x.trans t;clear t;refine⟨_,rfl,trivial,?_⟩;go_simp;refine qY 8 10 rfl rfl rfl rfl zl ?_ ?_
    ·refine zv 51 #[zj (some ⟨b,d+12,none⟩) 4 (cap-12)] zq (G.out J (k.out.trans (m.out.chg 0 0))) ?_;rintro e K ⟨rfl,t⟩;have A:Hid _:=m.trans t;clear t;refine⟨_,rfl,trivial,?_⟩;go_simp;refine hTk 9 (.agg #[za n0,za n1,za n2]) rfl (fun w' o=>zm) trivial ?_;go_simp;refine hOn 10 rfl ?_;have j:Hid _:=QX (T:=91) A;have e:K.heap.size=w0.heap.size:=by rw[A.out.heap]
     go_simp;clear e;generalize K.alloc (zi #[za 0,za 0,za 0] 91)=aj at*;refine hOn 11 rfl ?_;refine wsR [za n0,za n1,za n2] j.b ?_;intro r I q;refine⟨trivial,hDn ?_⟩;have O:Hid (zr 0 0 w0 r∧w0.heap.size<r.heap.size∧r.heap[w0.heap.size]?=some (zi #[za n0,za n1,za n2] 91)):=⟨j.c.step q,nE j.s q.size,I⟩;clear I q;go_wp2;go_meet;exact⟨rfl,O⟩
    ·have z:Hid _:=QX (T:=91) m;have e:J.heap.size=w0.heap.size:=by rw[m.out.heap]
     go_simp;clear e;generalize J.alloc (zi #[za 0,za 0,za 0] 91)=V at*;refine hOn 8 rfl ?_;refine zv 51 #[zj (some ⟨b,d+12,none⟩) 4 (cap-12)] zq (G.out V (k.out.trans z.out.c)) ?_;rintro e ai ⟨rfl,t⟩;have i:Hid _:=z.same t;clear t;refine⟨_,rfl,trivial,?_⟩;go_simp;refine hTk 9 (.agg #[za n0,za n1,za n2]) rfl (fun w' o=>zm) trivial ?_;go_simp;refine hOn 11 rfl ?_;refine wsR [za n0,za n1,za n2] i.b ?_
     intro r I q;refine⟨trivial,hDn ?_⟩;have O:Hid (zr 0 0 w0 r∧w0.heap.size<r.heap.size∧r.heap[w0.heap.size]?=some (zi #[za n0,za n1,za n2] 91)):=⟨i.c.step q,nE i.s q.size,I⟩;clear I q;go_wp2;go_meet;exact⟨rfl,O⟩
   ·have E:Hid _:=QX (T:=91) x;have e:S.heap.size=w0.heap.size:=by rw[x.out.heap]
    go_simp;clear e;generalize S.alloc (zi #[za 0,za 0,za 0] 91)=af at*;refine hOn 5 rfl ?_;refine zv 51 #[zj (some ⟨b,d+6,none⟩) 2 (cap-6)] zq (L.out af (k.out.trans E.out.c)) ?_;rintro e U ⟨rfl,t⟩;have y:Hid _:=E.same t;clear t;refine⟨_,rfl,trivial,?_⟩;go_simp;refine hOn 8 rfl ?_;refine zv 51 #[zj (some ⟨b,d+12,none⟩) 4 (cap-12)] zq (G.out U (k.out.trans y.out.c)) ?_;rintro e ah ⟨rfl,t⟩;have g:Hid _:=y.same t
    clear t;refine⟨_,rfl,trivial,?_⟩;go_simp;refine hTk 9 (.agg #[za n0,za n1,za n2]) rfl (fun w' o=>zm) trivial ?_;go_simp;refine hOn 11 rfl ?_;refine wsR [za n0,za n1,za n2] g.b ?_;intro r I q;refine⟨trivial,hDn ?_⟩;have O:Hid (zr 0 0 w0 r∧w0.heap.size<r.heap.size∧r.heap[w0.heap.size]?=some (zi #[za n0,za n1,za n2] 91)):=⟨g.c.step q,nE g.s q.size,I⟩;clear I q;go_wp2;go_meet;exact⟨rfl,O⟩
  ·have M:Hid _:=QX (T:=91) S0;have e:wd.heap.size=w0.heap.size:=by rw[S0.heap]
   go_simp;clear e;generalize wd.alloc (zi #[za 0,za 0,za 0] 91)=ap at*;refine hOn 2 rfl ?_;refine zv 51 #[zj (some ⟨b,d+8,none⟩) 4 (cap-8)] zq (N.out ap (k.out.trans M.out.c)) ?_;rintro e ae ⟨rfl,t⟩;have D:Hid _:=M.same t;clear t;refine⟨_,rfl,trivial,?_⟩;go_simp;refine hOn 5 rfl ?_;refine zv 51 #[zj (some ⟨b,d+6,none⟩) 2 (cap-6)] zq (L.out ae (k.out.trans D.out.c)) ?_;rintro e R ⟨rfl,t⟩;have u:Hid _:=D.same t
   clear t;refine⟨_,rfl,trivial,?_⟩;go_simp;refine hOn 8 rfl ?_;refine zv 51 #[zj (some ⟨b,d+12,none⟩) 4 (cap-12)] zq (G.out R (k.out.trans u.out.c)) ?_;rintro e ag ⟨rfl,t⟩;have f:Hid _:=u.same t;clear t;refine⟨_,rfl,trivial,?_⟩;go_simp;refine hTk 9 (.agg #[za n0,za n1,za n2]) rfl (fun w' o=>zm) trivial ?_;go_simp;refine hOn 11 rfl ?_;refine wsR [za n0,za n1,za n2] f.b ?_;intro r I q;refine⟨trivial,hDn ?_⟩
   have O:Hid (zr 0 0 w0 r∧w0.heap.size<r.heap.size∧r.heap[w0.heap.size]?=some (zi #[za n0,za n1,za n2] 91)):=⟨f.c.step q,nE f.s q.size,I⟩;clear I q;go_wp2;go_meet;exact⟨rfl,O⟩
 case rest=>
  obtain⟨rfl,Q,an,P⟩:=hcut;have Y:Hid _:=(Q.bk _ am).trans X;have aa:Hid _:=k.trans Q;have HG:Hid _:=P;obtain⟨⟨k0,k1,k2⟩,-⟩:=tri P;have hN:=HE.out wc;clear N L G X k Q P HE;go_wp2_with fail;clear k0 k1 k2;refine hN.mono ?_;rintro e w5 ⟨v5,rfl,o5,h5⟩;have s5:=h5.size;have Z:Hid _:=h5.bt Y;have ab:Hid _:=aa.trans h5;have ac:Hid _:=(h5.bk _ an).trans HG;have ad:=o5.seen (by rw[p.out];omega);obtain⟨e5,l5,c5,rfl⟩:=zF o5
  have hS:=j5 w5 F F ad (B.chg ab zk);rw[mR rfl] at hS;clear hN o5 h5 ad Y aa HG;go_wp2_with fail;refine hS.mono ?_;rintro e w6 ⟨rfl,ax⟩;subst w6;clear hS;obtain⟨⟨z1,z2,z3,z4⟩,f1,f2,f3,f4⟩:=qO Z;obtain⟨⟨k0,k1,k2⟩,-⟩:=tri ac;have HCs:Hid _:=J1 ab;clear Z ac;go_wp2;exact mT (v:=rV4 true n0 n1 n2) (by simp[results,Tryz.results132,go_sem,rV4, *]) rfl ⟨rfl,HCs.out _ _ _ _⟩
theorem KX (w:World){n0 n1 n2:Int}(hB:Byt xs)(hv:zC w lo hi .u8 a xs)(hk:kindOf xs=1)(C:xs.length=64)
  (g0:qI ((xs.drop 6).take 2)=n0) (g1:qI ((xs.drop 12).take 2)=n1) (g2:qI ((xs.drop 8).take 4)=n2)
  (hE: ∀W:World,Calls Tryz.prog 53 #[.agg #[za n0,za n1,za n2]] W fun e w'=> ∃v,e= .returned v∧zu w' W.heap.size 5 v xs∧zr 0 0 W w'):
  Calls Tryz.prog 21 #[a] w fun e w'=>e= .returned (rV4 true n0 n1 n2)∧zr 0 0 w w':=by
 have B:Hid (zC w lo hi .u8 a xs):=hv;obtain⟨ao,cap,rfl,aw,⟨ak,_⟩,H⟩:=hv;have C0:zr 0 0 w (w.alloc (zi #[.bool false,za 0,za 0,za 0] 55)):=zr.al w;have hK:=jw _ hB (B.chg C0 zk);have hs:w.heap.size<(w.alloc (zi #[.bool false,za 0,za 0,za 0] 55)).heap.size:=zn;have HB:Hid _:=zt w (zi #[.bool false,za 0,za 0,za 0] 55);have HC:Hid _:=C0;have HE:Hid _:=hE;change Calls _ _ _ _ fun e w'=>e= .returned (za (kindOf xs))∧zr 0 0 _ w' at hK
 rw[hk] at hK;obtain⟨b,d,rfl,_,_,_⟩:=H.resolve_left (fun h=>by rw[h] at C;cases C);have p:Hid (xs.length=64):=C;have F:Hid (Byt xs):=hB;rw[C] at B ak hK;rw[C];have au:(8:Int)≤(cap:Int):=zk;have ay: ¬cap=6:=zk;have aq:(14:Int)≤(cap:Int):=zk;have ar: ¬cap=12:=zk;have av:(12:Int)≤(cap:Int):=zk;have az: ¬cap=8:=zk;have N:Hid (∀W,zr 0 0 w W→Calls Tryz.prog 51 #[zj (some ⟨b,d+6,none⟩) 2 (cap-6)] W fun e w'=>e= .returned (za n0)∧qj W w'):=fun W h=>g0▸jt W ((F.out.drop 6).take 2) ((zC.part (l:=6) (n:=2) (by rw[p.out];exact B.out) (by rw[p.out];omega) zk (cap-6)).chg h zk)
 have L:Hid (∀W,zr 0 0 w W→Calls Tryz.prog 51 #[zj (some ⟨b,d+12,none⟩) 2 (cap-12)] W fun e w'=>e= .returned (za n1)∧qj W w'):=fun W h=>g1▸jt W ((F.out.drop 12).take 2) ((zC.part (l:=12) (n:=2) (by rw[p.out];exact B.out) (by rw[p.out];omega) zk (cap-12)).chg h zk);have G:Hid (∀W,zr 0 0 w W→Calls Tryz.prog 51 #[zj (some ⟨b,d+8,none⟩) 4 (cap-8)] W fun e w'=>e= .returned (za n2)∧qj W w'):=fun W h=>g2▸jt W ((F.out.drop 8).take 4) ((zC.part (l:=8) (n:=4) (by rw[p.out];exact B.out) (by rw[p.out];omega) zk (cap-8)).chg h zk)
 clear hE hk C hB H C0 g0 g1 g2;go_enter Tryz.func21,Tryz.ntmps21;go_wp2_with fail;generalize w.alloc (zi #[.bool false,za 0,za 0,za 0] 55)=wA at*;refine hK.mono ?_;rintro e w0 ⟨rfl,c1⟩;have s1:=c1.size;have X:Hid _:=(c1.bk _ hs).trans HB;have k:Hid _:=HC.trans c1;have am:w.heap.size<w0.heap.size:=zk;clear hK c1 HB HC hs s1;go_upto_region 3 with fail;go_cut [3] (fun s3 wx=>s3=zh w0.heap.size∧zr 0 0 w0 wx∧w0.heap.size<wx.heap.size∧wx.heap[w0.heap.size]?=some (zi #[za n0,za n1,za n2] 45))
 case first=>
  refine hRg (fun _=>True) ?_;have S0:qj w0 w0.drew:=(qj.refl w0).drew;generalize w0.drew=wd at*;refine hTk 0 (zj (some ⟨b,d,none⟩) 64 cap) rfl (fun w' o=>zm) trivial ?_;go_simp;refine hTk 1 (zj (some ⟨b,d+6,none⟩) 2 (cap-6)) rfl (fun w' o=>zm) trivial ?_;go_simp;refine hTk 3 (zj (some ⟨b,d,none⟩) 64 cap) rfl (fun w' o=>zm) trivial ?_;go_simp;refine hTk 4 (zj (some ⟨b,d+12,none⟩) 2 (cap-12)) rfl (fun w' o=>zm) trivial ?_
  go_simp;refine hTk 6 (zj (some ⟨b,d,none⟩) 64 cap) rfl (fun w' o=>zm) trivial ?_;go_simp;refine hTk 7 (zj (some ⟨b,d+8,none⟩) 4 (cap-8)) rfl (fun w' o=>zm) trivial ?_;go_simp;refine qY 2 10 rfl rfl rfl rfl zl ?_ ?_
  ·refine zv 51 #[zj (some ⟨b,d+6,none⟩) 2 (cap-6)] zq (N.out wd (k.out.trans (S0.chg 0 0))) ?_;rintro e S ⟨rfl,t⟩;have x:Hid _:=S0.trans t;clear t;refine⟨_,rfl,trivial,?_⟩;go_simp;refine qY 5 10 rfl rfl rfl rfl zl ?_ ?_
   ·refine zv 51 #[zj (some ⟨b,d+12,none⟩) 2 (cap-12)] zq (L.out S (k.out.trans (x.out.chg 0 0))) ?_;rintro e J ⟨rfl,t⟩;have m:Hid _:=x.trans t;clear t;refine⟨_,rfl,trivial,?_⟩;go_simp;refine qY 8 10 rfl rfl rfl rfl zl ?_ ?_
    ·refine zv 51 #[zj (some ⟨b,d+8,none⟩) 4 (cap-8)] zq (G.out J (k.out.trans (m.out.chg 0 0))) ?_;rintro e K ⟨rfl,t⟩;have A:Hid _:=m.trans t;clear t;refine⟨_,rfl,trivial,?_⟩;go_simp;refine hTk 9 (.agg #[za n0,za n1,za n2]) rfl (fun w' o=>zm) trivial ?_;go_simp;refine hOn 10 rfl ?_;have j:Hid _:=QX (T:=45) A;have e:K.heap.size=w0.heap.size:=by rw[A.out.heap]
     go_simp;clear e;generalize K.alloc (zi #[za 0,za 0,za 0] 45)=aj at*;refine hOn 11 rfl ?_;refine wsR [za n0,za n1,za n2] j.b ?_;intro r I q;refine⟨trivial,hDn ?_⟩;have O:Hid (zr 0 0 w0 r∧w0.heap.size<r.heap.size∧r.heap[w0.heap.size]?=some (zi #[za n0,za n1,za n2] 45)):=⟨j.c.step q,nE j.s q.size,I⟩;clear I q;go_wp2;go_meet;exact⟨rfl,O⟩
    ·have z:Hid _:=QX (T:=45) m;have e:J.heap.size=w0.heap.size:=by rw[m.out.heap]
     go_simp;clear e;generalize J.alloc (zi #[za 0,za 0,za 0] 45)=V at*;refine hOn 8 rfl ?_;refine zv 51 #[zj (some ⟨b,d+8,none⟩) 4 (cap-8)] zq (G.out V (k.out.trans z.out.c)) ?_;rintro e ai ⟨rfl,t⟩;have i:Hid _:=z.same t;clear t;refine⟨_,rfl,trivial,?_⟩;go_simp;refine hTk 9 (.agg #[za n0,za n1,za n2]) rfl (fun w' o=>zm) trivial ?_;go_simp;refine hOn 11 rfl ?_;refine wsR [za n0,za n1,za n2] i.b ?_
     intro r I q;refine⟨trivial,hDn ?_⟩;have O:Hid (zr 0 0 w0 r∧w0.heap.size<r.heap.size∧r.heap[w0.heap.size]?=some (zi #[za n0,za n1,za n2] 45)):=⟨i.c.step q,nE i.s q.size,I⟩;clear I q;go_wp2;go_meet;exact⟨rfl,O⟩
   ·have E:Hid _:=QX (T:=45) x;have e:S.heap.size=w0.heap.size:=by rw[x.out.heap]
    go_simp;clear e;generalize S.alloc (zi #[za 0,za 0,za 0] 45)=af at*;refine hOn 5 rfl ?_;refine zv 51 #[zj (some ⟨b,d+12,none⟩) 2 (cap-12)] zq (L.out af (k.out.trans E.out.c)) ?_;rintro e U ⟨rfl,t⟩;have y:Hid _:=E.same t;clear t;refine⟨_,rfl,trivial,?_⟩;go_simp;refine hOn 8 rfl ?_;refine zv 51 #[zj (some ⟨b,d+8,none⟩) 4 (cap-8)] zq (G.out U (k.out.trans y.out.c)) ?_;rintro e ah ⟨rfl,t⟩;have g:Hid _:=y.same t
    clear t;refine⟨_,rfl,trivial,?_⟩;go_simp;refine hTk 9 (.agg #[za n0,za n1,za n2]) rfl (fun w' o=>zm) trivial ?_;go_simp;refine hOn 11 rfl ?_;refine wsR [za n0,za n1,za n2] g.b ?_;intro r I q;refine⟨trivial,hDn ?_⟩;have O:Hid (zr 0 0 w0 r∧w0.heap.size<r.heap.size∧r.heap[w0.heap.size]?=some (zi #[za n0,za n1,za n2] 45)):=⟨g.c.step q,nE g.s q.size,I⟩;clear I q;go_wp2;go_meet;exact⟨rfl,O⟩
  ·have M:Hid _:=QX (T:=45) S0;have e:wd.heap.size=w0.heap.size:=by rw[S0.heap]
   go_simp;clear e;generalize wd.alloc (zi #[za 0,za 0,za 0] 45)=ap at*;refine hOn 2 rfl ?_;refine zv 51 #[zj (some ⟨b,d+6,none⟩) 2 (cap-6)] zq (N.out ap (k.out.trans M.out.c)) ?_;rintro e ae ⟨rfl,t⟩;have D:Hid _:=M.same t;clear t;refine⟨_,rfl,trivial,?_⟩;go_simp;refine hOn 5 rfl ?_;refine zv 51 #[zj (some ⟨b,d+12,none⟩) 2 (cap-12)] zq (L.out ae (k.out.trans D.out.c)) ?_;rintro e R ⟨rfl,t⟩;have u:Hid _:=D.same t
   clear t;refine⟨_,rfl,trivial,?_⟩;go_simp;refine hOn 8 rfl ?_;refine zv 51 #[zj (some ⟨b,d+8,none⟩) 4 (cap-8)] zq (G.out R (k.out.trans u.out.c)) ?_;rintro e ag ⟨rfl,t⟩;have f:Hid _:=u.same t;clear t;refine⟨_,rfl,trivial,?_⟩;go_simp;refine hTk 9 (.agg #[za n0,za n1,za n2]) rfl (fun w' o=>zm) trivial ?_;go_simp;refine hOn 11 rfl ?_;refine wsR [za n0,za n1,za n2] f.b ?_;intro r I q;refine⟨trivial,hDn ?_⟩
   have O:Hid (zr 0 0 w0 r∧w0.heap.size<r.heap.size∧r.heap[w0.heap.size]?=some (zi #[za n0,za n1,za n2] 45)):=⟨f.c.step q,nE f.s q.size,I⟩;clear I q;go_wp2;go_meet;exact⟨rfl,O⟩
 case rest=>
  obtain⟨rfl,Q,an,P⟩:=hcut;have Y:Hid _:=(Q.bk _ am).trans X;have aa:Hid _:=k.trans Q;have HG:Hid _:=P;obtain⟨⟨k0,k1,k2⟩,-⟩:=tri P;have hN:=HE.out wc;clear N L G X k Q P HE;go_wp2_with fail;clear k0 k1 k2;refine hN.mono ?_;rintro e w5 ⟨v5,rfl,o5,h5⟩;have s5:=h5.size;have Z:Hid _:=h5.bt Y;have ab:Hid _:=aa.trans h5;have ac:Hid _:=(h5.bk _ an).trans HG;have ad:=o5.seen (by rw[p.out];omega);obtain⟨e5,l5,c5,rfl⟩:=zF o5
  have hS:=j5 w5 F F ad (B.chg ab zk);rw[mR rfl] at hS;clear hN o5 h5 ad Y aa HG;go_wp2_with fail;refine hS.mono ?_;rintro e w6 ⟨rfl,ax⟩;subst w6;clear hS;obtain⟨⟨z1,z2,z3,z4⟩,f1,f2,f3,f4⟩:=qO Z;obtain⟨⟨k0,k1,k2⟩,-⟩:=tri ac;have HCs:Hid _:=J1 ab;clear Z ac;go_wp2;exact mT (v:=rV4 true n0 n1 n2) (by simp[results,Tryz.results21,go_sem,rV4, *]) rfl ⟨rfl,HCs.out _ _ _ _⟩
theorem Xt {k c:Int}{Y:List Int}(h:(zx c 2).length=2)(m:(zx q 4).length=4)(i:c≤9223372036854775807:=by omega)(j:q≤9223372036854775807:=by omega):
  qI (((qk (zD k c q++Y)).drop 6).take 2)=c∧qI (((qk (zD k c q++Y)).drop 8).take 4)=q∧(qk (zD k c q++Y)).drop 12=Y++List.replicate (64-(zD k c q++Y).length) 0:=by
 have o:=jc c 2 i (by intro e;rw[e] at h;simp at h);have p:=jc q 4 j (by intro e;rw[e] at m;simp at m);refine⟨?_,?_,(Qc (k:=k) (Y:=Y) h m i j).2.2.2⟩
 ·obtain⟨a,b,l⟩:=Uv h;rw[l] at o;unfold qk zD;rw[l];simpa [mg] using o
 ·obtain⟨a,b,l⟩:=Uv h;obtain⟨d,e,f,g,n⟩:=E8 m;rw[n] at p;unfold qk zD;rw[l,n];simpa [mg] using p
def cmV:FB→Value
 | .inr (.inr (.inl (q,c,s)))=>rV4 true q c s
 |_=>rV4 false 0 0 0
theorem eJ (w:World){x:FB}(i:x.ok)(h:zC w lo hi .u8 a x.bs):Calls Tryz.prog 132 #[a] w fun e w'=>e= .returned (cmV x)∧zr 0 0 w w':=by
 have g:=(FB.head i).1;have r:=FB.len i;have f:=FB.byt i
 cases x using FB.el with
 |com q c s=>
  obtain⟨j,p,hs⟩:=i;have h2:=pn2 (v:=c);have o:=pn4 (v:=q) zk j.2;have d:=pn4 hs.1 hs.2;obtain⟨l,m,n⟩:=Xt (k:=4) (c:=c) (q:=q) (Y:=zx s 4) h2 o;refine KW w f h g r m l ?_ (fun W=>?_)
  ·show qI (((qk (zD 4 c q++zx s 4)).drop 12).take 4)=s;rw[n,oG zk,ny zk];exact jc _ _ zk (fun e=>by rw[e] at d;simp at d)
  ·have:=Jp W q c s;rwa [show jF q c s=(FB.com q c s).bs by unfold jF;rw[mM ⟨j,⟨p.1,zk⟩,hs⟩];rfl] at this
 |rev q rs=>exact Qw w f h (by rw[g];simp[FB.kind])
 |des q ts=>exact Qw w f h (by rw[g];simp[FB.kind])
 |raw b=>exact Qw w f h (by rw[g];simp[FB.kind])
theorem zM.seen {e:TypeId}(h:zM w base e v xs)(b:xs.length≤1048576):zC w base w.heap.size .i64 v xs:=
 h.view zk (fun g a=>(h.lt g a).2)
abbrev rV3 (g:Bool) (q:Int) (v:Value):Value:= .agg #[.bool g,za q,v]
theorem lf (W:World)(base:Nat)(a:Int)(b:base≤W.heap.size):zM (W.alloc (zi #[za a] 2)) base 2 (zg W.heap.size 1 1) [a]:=by
 have:=nK (base:=base) (e:=2) (size:=1) W #[za a] 1 b (by unfold maxLen;omega) rfl;unfold zM;simpa using this
theorem zM.sl' {e:TypeId}(h:zM w base e v xs): ∃a c,v=zj a xs.length c:=by
 rcases h.2 with⟨rfl,h0⟩|⟨g,cap,b,rfl,_⟩
 ·exact⟨Option.none,0,by rw[h0]⟩
 ·exact⟨_,_,rfl⟩
theorem Ek {w5:World}(h:zr 0 0 w w5)(a b c:Value):zr 0 0 w (((w5.setCell (zd w.heap.size) a).setCell ⟨w.heap.size,1,none⟩ b).setCell ⟨w.heap.size,2,none⟩ c):=by
 refine h.step (l:=w.heap.size) (r:=w.heap.size+1) ?_ (Or.inr (Or.inl nlR));refine zr.setCell (zr.setCell (zr.setCell (zr.refl _ _ _) ?_ _) ?_ _) ?_ _<;>exact Or.inl ⟨mP _,m5 _⟩
theorem EE (h:Vq xs):z8 xs xs.length:=fun i hi=>by
 have b: ∀j,j<xs.length→0≤xs.getD j 0∧xs.getD j 0<2048:=fun j a=>h.2 _ (by rw[mV,mZ a];exact nj a)
 refine jZ.2 ⟨?_,(b i hi).2⟩
 unfold qH
 split
 ·have:=(b i hi).1
  omega
 ·obtain⟨j,rfl⟩: ∃j,i=j+1:=⟨i-1,zk⟩
  exact h.1 j hi
structure DvR (w W:World)(B:Nat)(q:Int)(l:List Int)(v:Value):Prop where
 c:zr 0 0 w W
 s:w.heap.size<B∧B<W.heap.size
 r:W.heap[w.heap.size]?=some (zi #[.bool false,za 0,zc] 277)
 b:W.heap[B]?=some (zi #[za q,v] 166)
 o:zM W (B+1) 2 v l
theorem DvR.grow {l:List Int}(h:DvR w W B q l v)(c:zr 0 0 W W'):DvR w W' B q l v:=by
 have:=h.s;exact⟨h.c.trans c,⟨h.s.1,nE h.s.2 c.size⟩,c.bt h.r,c.bt h.b,h.o.chg c (fun _ _=>zk)⟩
theorem DvR.put {l l':List Int}{v':Value}(h:DvR w W B q l v)(o:zM W' (B+1) 2 v' l')(c:zr (B+1) W.heap.size W W'):
  W'.heap[B]?=some (zi #[za q,v] 166)∧DvR w (W'.setCell ⟨B,1,none⟩ v') B q l' v':=by
 have hs:=h.s;have cs:=c.size;have a:zr B (B+1) W' (W'.setCell ⟨B,1,none⟩ v'):=zr.setCell (p:=⟨B,1,none⟩) (zr.refl _ _ _) (Or.inl ⟨mP _,m5 _⟩) _;have d:=c.bt h.b;refine⟨d,(h.c.step c).step a,by have:=a.size;omega,a.bt ((c.bk _).trans h.r),?_,o.chg a (fun g e=>by have:=(o.lt g e).1;omega)⟩;simp[World.setCell,rH,d]
theorem eU (w:World)(l:Byt xs)(k:zC w lo hi .u8 a xs)(g:kindOf xs≠3):
  Calls Tryz.prog 177 #[a] w fun e w'=>e= .returned (rV3 false 0 (zc))∧zr 0 0 w w':=by
 have d:zr 0 0 w (w.alloc (zi #[.bool false,za 0,zc] 277)):=zr.al w;have c:=jw _ l (k.chg d zk);obtain⟨ao,cap,rfl,-⟩:=k;have j:Hid _:=d;have i:Hid _:=zt w (zi #[.bool false,za 0,zc] 277);obtain⟨h,b⟩: ∃h,h=kindOf xs:=⟨_,rfl⟩;change Calls _ _ _ _ fun e w'=>e= .returned (za (kindOf xs))∧zr 0 0 _ w' at c;rw[←b] at c g;have m:(h !=(3:Int))=true:=by simp[g]
 clear b g d;have hs:w.heap.size<(w.alloc (zi #[.bool false,za 0,zc] 277)).heap.size:=zn;go_enter Tryz.func177,Tryz.ntmps177;go_wp2_with fail;generalize w.alloc (zi #[.bool false,za 0,zc] 277)=w0 at*;refine c.mono ?_;rintro e q ⟨rfl,f⟩;obtain⟨⟨r,s,t⟩,n,o,p⟩:=tri ((f.bk _ hs).trans i);have HC1:Hid _:=Ek (j.trans f);clear c f i j hs;go_wp2;exact mT (v:=rV3 false 0 (zc)) (by simp[results,Tryz.results177,go_sem,rV3, *]) rfl ⟨rfl,HC1.out _ _ _⟩
theorem Ub (n:(FB.rev q rs).ok):qI (((FB.rev q rs).bs.drop 6).take 2)=rs.length∧qI (((FB.rev q rs).bs.drop 8).take 4)=q∧ ∀i,i<rs.length→qI (((FB.rev q rs).bs.drop (12+2*i)).take 2)=rs.getD i 0:=by
 obtain⟨m,d,l⟩:=n;have a:=pn2 (v:=(rs.length:Int));have b:=pn4 (v:=q) zk m.2;obtain⟨g,h,f⟩:=Xt (k:=3) (c:=(rs.length:Int)) (q:=q) (Y:=qm rs) a b;refine⟨g,h,fun i hi=>?_⟩;have e:(qk (zD 3 (rs.length:Int) q++qm rs)).drop (12+2*i)=((qk (zD 3 (rs.length:Int) q++qm rs)).drop 12).drop (2*i):=by rw[pK]
 show qI (((qk (zD 3 (rs.length:Int) q++qm rs)).drop (12+2*i)).take 2)=_;rw[e,f,am d.2 _ i hi];have j:=d.2 (rs.getD i 0) (by rw[mV,mZ hi];exact nj hi);exact jc _ _ zk (fun e=>by have:=Zc j;rw[e] at this;simp at this)
theorem eV (w:World)(hx:(FB.rev q rs).ok)(hv:zC w lo hi .u8 a (FB.rev q rs).bs):
  Calls Tryz.prog 177 #[a] w fun e w'=> ∃v,e= .returned (rV3 true q v)∧zM w' w.heap.size 2 v rs∧zr 0 0 w w':=by
 have S:=(FB.head hx).1;have u:=FB.len hx;have hB:=FB.byt hx;obtain⟨g6,g8,K⟩:=Ub hx;obtain⟨hq,hr,x⟩:=hx;have V:Hid (∀(W:World) (g cap:Nat),(∀i,i<rs.length→W.cell? ⟨g,0+i,none⟩=some (za (rs.getD i 0)))→Calls Tryz.prog 94 #[.agg #[za q,zg g rs.length cap]] W fun e w'=> ∃v,e= .returned v∧zu w' W.heap.size 5 v (FB.rev q rs).bs∧zr 0 0 W w'):=
  fun W g cap h=>Jq W q rs g 0 cap hq.1 hq.2 x.1 x.2 (EE hr) h
 change kindOf _=3 at S;clear hr;generalize (FB.rev q rs).bs=xs at*;obtain⟨n,hn⟩: ∃n,n=rs.length:=⟨_,rfl⟩;have F:Hid (n=rs.length):=hn;rw[←hn] at x g6 K V;clear hn;have E:Hid (zC w lo hi .u8 a xs):=hv;obtain⟨ao,cap,rfl,ak,⟨ai,_⟩,z⟩:=hv;have C0:zr 0 0 w (w.alloc (zi #[.bool false,za 0,zc] 277)):=zr.al w;have hK:=jw _ hB (E.chg C0 zk);have hs:w.heap.size+1≤(w.alloc (zi #[.bool false,za 0,zc] 277)).heap.size:=zn
 have HB:Hid _:=zt w (zi #[.bool false,za 0,zc] 277);have HC:Hid _:=C0;change Calls _ _ _ _ fun e w'=>e= .returned (za (kindOf xs))∧zr 0 0 _ w' at hK;rw[S] at hK;obtain⟨b,p,rfl,_,_,_⟩:=z.resolve_left (fun h=>by rw[h] at u;cases u);have C:Hid (xs.length=64):=u;have H:Hid (Byt xs):=hB;rw[u] at E ai hK;rw[u];have av:(8:Int)≤(cap:Int):=zk;have aA: ¬cap=6:=zk;have am:(12:Int)≤(cap:Int):=zk;have aB: ¬cap=8:=zk
 have HG:Hid (∀(k m:Nat) (W:World),k+m≤64→0<m→zr 0 0 w W→Calls Tryz.prog 51 #[zj (some ⟨b,p+k,none⟩) m (cap-k)] W fun e w'=>e= .returned (za (qI ((xs.drop k).take m)))∧qj W w'):=fun k m W aw hm h=>by
  have hl:((xs.drop k).take m).length=m:=by rw[mW,m8,C.out];omega
  have:=jt W ((H.drop k).take m) ((zC.part (l:=k) (n:=m) (by rw[C.out];exact E) (by rw[C.out];omega) hm (cap-k)).chg h zk);exact this
 have X:Hid (∀W,zr 0 0 w W→Calls Tryz.prog 51 #[zj (some ⟨b,p+6,none⟩) 2 (cap-6)] W fun e w'=>e= .returned (za n)∧qj W w'):=fun W h=>g6▸HG.out 6 2 W zk zk h;have ae:Hid (∀W,zr 0 0 w W→Calls Tryz.prog 51 #[zj (some ⟨b,p+8,none⟩) 4 (cap-8)] W fun e w'=>e= .returned (za q)∧qj W w'):=fun W h=>g8▸HG.out 8 4 W zk zk h;have af:Hid (∀(k:Nat) (W:World),k<n→zr 0 0 w W→Calls Tryz.prog 51 #[zj (some ⟨b,p+(12+2*k),none⟩) 2 (cap-(12+2*k))] W fun e w'=>e= .returned (za (rs.getD k 0))∧qj W w'):=fun k W S h=>by
  have:=HG.out (12+2*k) 2 W zk zk h;rw[K k S] at this;exact this
 have ap: ¬((26:Int)<(n:Int)):=zk;have aq:n≤26:=x.2;have ax:1≤n:=x.1;clear S u hB z C0 g6 g8 K HG x ak;go_enter Tryz.func177,Tryz.ntmps177;go_wp2_with fail;generalize w.alloc (zi #[.bool false,za 0,zc] 277)=wA at*;refine hK.mono ?_;rintro e w1 ⟨rfl,c1⟩;have s1:=c1.size;have T:Hid _:=(c1.bk _ hs).trans HB;have I:Hid _:=HC.trans c1;have P:w.heap.size+1≤w1.heap.size:=zk;clear hK c1 HB HC hs s1;go_wp2_with fail
 refine(X w1 I).mono ?_;rintro e w2 ⟨rfl,t⟩;have U:Hid _:=((t.chg 0 0).bk _ P).trans T;have J:Hid _:=I.trans (t.chg 0 0);have Q:w.heap.size+1≤w2.heap.size:=by rw[t.heap];exact P
 clear t T I P;go_wp2_with fail;refine(ae w2 J).mono ?_;rintro e R ⟨rfl,t⟩;have e3:R.heap.size=w2.heap.size:=by rw[t.heap]
 have HI:Hid (DvR w (R.alloc (zi #[za q,zc] 166)) w2.heap.size q (rs.take 0) (zc)):=by
  have cz:zr 0 0 R (R.alloc (zi #[za q,zc] 166)):=zr.al R;have hz:=zt R (zi #[za q,zc] 166);rw[e3] at hz;exact⟨(J.trans (t.chg 0 0)).trans cz,⟨Q,by simp[e3]⟩,((((t.chg 0 0).trans cz).bk _ Q).trans U),hz,⟨rfl,Or.inl ⟨rfl,rfl⟩⟩⟩
 clear J U Q;go_wp2;generalize R.alloc (zi #[za q,zc] 166)=w4 at*;generalize w2.heap.size=B at*;clear t e3;go_loopw [4] (fun s4 wr=> ∃(k:Nat) (v:Value),k≤n∧s4=za k∧DvR w wr B q (rs.take k) v) (fun s4 _=>n-(intOf s4).toNat)
 case atStart=>exact⟨0,_,mX _,rfl,HI⟩
 case round=>
  obtain⟨k,v,S,rfl,hI⟩:=hrel;clear HI;go_wp2_with fail;refine(X wr hI.c).mono ?_;rintro e w5 ⟨rfl,t⟩;have f:=hI.grow (t.chg 0 0);clear hI t;by_cases O:k<n
  ·have hi':(k:Int)<(n:Int):=zk;obtain⟨va,vc,rfl⟩:=f.o.sl';obtain⟨m,hm⟩: ∃m:Nat,m=12+2*k:=⟨_,rfl⟩;have HN:=af.out k;rw[←hm] at HN;have HN:Hid _:=HN;have ag:Hid (rs.take (k+1)=rs.take k++ [rs.getD k 0]):=by
    show _=_;rw[sO,mV,mZ (by rw[←F.out];exact O)];rfl
   have N:(rs.take k).length=k:=by rw[mW,←F.out];omega
   rw[N] at f;have ah:Hid _:=N;generalize rs.getD k 0=dk at*;have e1:(12:Int)+2*(k:Int)=(m:Int):=zk;have e2:(14:Int)+2*(k:Int)=(m:Int)+2:=zk;have q1:(0:Int)≤(m:Int)+2:=zk;have q2:(m:Int)+2≤(cap:Int):=zk;have q3: ¬cap=m:=zk;have q4:(m:Int)≤max ((m:Int)+2) 0:=zk;have q5:((m:Int)+2).toNat-m=2:=zk;have q6: ¬(m:Int)+2<(m:Int):=zk;have x1:IntKind.i64.wrap (2*(k:Int))=2*(k:Int):=by rw[mS];omega
   have x2:IntKind.i64.wrap (m:Int)=(m:Int):=by rw[mS];omega
   have x3:IntKind.i64.wrap ((m:Int)+2)=(m:Int)+2:=by rw[mS];omega
   clear hm N;have HI0:Hid (DvR w w5.drew B q (rs.take k) (zj va k vc)):=f.grow (zr.drew (zr.refl 0 0 w5));clear f;go_wp2;refine wRg 14 (fun w':World=>w'.heap[B]?=some (zi #[za q,zj va k vc] 166)) ?_;generalize w5.drew=wd at*;refine wTk 0 (.pointer (some ⟨B,1,none⟩)) rfl (fun w' d=>zm) HI0.out.b ?_;go_simp;refine wTk 1 (zj va k vc) rfl (fun w' d=>by obtain⟨h4,h5,_,_⟩:=zw d;go_simp) HI0.out.b ?_;go_simp
   refine wTk 2 (zj (some ⟨b,p,none⟩) 64 cap) rfl (fun w' d=>zm) HI0.out.b ?_;go_simp;refine wTk 3 (za k) rfl (fun w' d=>zm) HI0.out.b ?_;go_simp;refine wTk 4 (za (2*(k:Int))) rfl (fun w' d=>zm) HI0.out.b ?_;go_simp;refine wTk 5 (za m) rfl (fun w' d=>zm) HI0.out.b ?_;go_simp;refine wTk 6 (za k) rfl (fun w' d=>zm) HI0.out.b ?_;go_simp;refine wTk 7 (za (2*(k:Int))) rfl (fun w' d=>zm) HI0.out.b ?_;go_simp
   refine wTk 8 (za ((m:Int)+2)) rfl (fun w' d=>zm) HI0.out.b ?_;go_simp;refine wTk 9 (zj (some ⟨b,p+m,none⟩) 2 (cap-m)) rfl (fun w' d=>zm) HI0.out.b ?_;go_simp;refine wOn 10 rfl ?_;refine zv 51 #[zj (some ⟨b,p+m,none⟩) 2 (cap-m)] zq (HN.out wd O HI0.out.c) ?_;rintro e wa ⟨rfl,ta⟩;have D:Hid _:=HI0.grow (ta.chg 0 0);clear ta HI0;refine⟨_,rfl,fun _=>D.b,?_⟩;go_simp;have aa:Hid _:=(lf wa w.heap.size dk (by have:=D.s;omega)).seen zn
   have y:Hid _:=D.grow (zr.alloc (zr.refl 0 0 wa) (zi #[za dk] 2));obtain⟨ic,aj,ac,A,an⟩:=na Tryz.infoI;refine wOn 11 rfl ?_;refine oe 33 2 1 #[(0,.tmp 36)] rfl #[za dk] ic _ Tryz.underlying33 aj ac (by rw[A];decide) (by rw[A];decide) (by rw[A,oh];refine e9 _ ?_ _ _;simp) ?_;generalize wa.alloc (zi #[za dk] 2)=wb at*;refine⟨fun _=>y.b,?_⟩;go_simp;refine wOn 12 rfl ?_;refine Xn (.tmp 27) (.tmp 37) rfl (B+1) _ (rs.take k) rfl y.o (by have:=y.s;omega) _ _ _ [dk] rfl aa zn (by rw[ah.out];simp;omega) ?_
   intro v8 w8 o8 h8;rw[←ag.out] at o8;obtain⟨a8,c8,e8⟩:=o8.sl';rw[mW,←F.out,ol zk] at e8;subst e8;obtain⟨M,hF⟩:=y.put o8 h8;have HF:Hid _:=hF;have Z:Hid _:=M;refine⟨fun _=>Z.out,?_⟩;clear D y aa o8 h8 hF;obtain⟨z0,z1,y0,y1⟩:=zw M;clear M;go_simp;refine wTk 13 (.pointer (some ⟨B,1,none⟩)) rfl (fun w' d=>zm) Z.out ?_;go_simp;refine wOn 14 rfl ?_;go_simp;refine wDn ?_;clear z0 z1 y0 y1;go_wp2;go_roundw
   case rel=>exact⟨k+1,_,zk,by go_num,HF.out⟩
   case measure=>simp[intOf];omega
  ·obtain rfl:k=n:=zk;have ay: ¬(k:Int)<(k:Int):=zk;have G:rs.take k=rs:=ny (by rw[←F.out];exact mP _);rw[G] at f;obtain⟨g,L,rfl,ab⟩: ∃g L,v=zg g k L∧ ∀i,i<k→w5.cell? ⟨g,0+i,none⟩=some (za (rs.getD i 0)):=by
    have ho:=f.o;rcases ho.2 with⟨_,e⟩|⟨g,L,au,rfl,_⟩
    ·rw[←F.out] at e;omega
    ·refine⟨g,L,by rw[F.out],fun i hi=>?_⟩;rw[ni,nA ho i (by rw[←F.out];omega)];simp[show i<rs.length by rw[←F.out];exact hi]
   have hE:=V.out w5 g L ab;obtain⟨k0,k1,_,_⟩:=zw f.b;have Y:Hid _:=f;clear f ab G O;go_wp2_with fail;clear k0 k1;refine hE.mono ?_;rintro e w6 ⟨v6,rfl,o6,c6⟩;have ad:=o6.seen (by rw[C.out];omega);have j:Hid _:=Y.grow c6;obtain⟨e6,l6,ar,rfl⟩:=zF o6;have hS:=j5 w6 H H ad (E.chg j.c zk);rw[mR rfl] at hS;clear hE o6 c6 ad Y;go_wp2_with fail;refine hS.mono ?_;rintro e w7 ⟨rfl,az⟩;subst w7;clear hS;obtain⟨k0,k1,_,_⟩:=zw j.b
   obtain⟨⟨z1,z2,z3⟩,f1,f2,f3⟩:=tri j.r;have HF:Hid (∀u0 u1 u2:Value,zM (((w6.setCell (zd w.heap.size) u0).setCell ⟨w.heap.size,1,none⟩ u1).setCell ⟨w.heap.size,2,none⟩ u2) w.heap.size 2 (zg g k L) rs∧zr 0 0 w (((w6.setCell (zd w.heap.size) u0).setCell ⟨w.heap.size,1,none⟩ u1).setCell ⟨w.heap.size,2,none⟩ u2)):=fun u0 u1 u2=>by
    have cc:zr w.heap.size (w.heap.size+1) w6 (((w6.setCell (zd w.heap.size) u0).setCell ⟨w.heap.size,1,none⟩ u1).setCell ⟨w.heap.size,2,none⟩ u2):=by
     refine zr.setCell (zr.setCell (zr.setCell (zr.refl _ _ _) ?_ _) ?_ _) ?_ _<;>exact Or.inl ⟨mP _,m5 _⟩
    have hs:=j.s;exact⟨(j.o.chg cc (fun g hg=>by have:=(j.o.lt g hg).1;omega)).lowI,j.c.step cc⟩
   clear j;go_wp2;exact mT (v:=rV3 true q (zg g k L)) (by simp[results,Tryz.results177,go_sem,rV3, *]) rfl ⟨_,rfl,HF.out _ _ _⟩
theorem je.slG {xs:List (Int×Bool)}(h:je w base v xs): ∃a c,v=zj a xs.length c:=by
 rcases h.2 with⟨rfl,h0⟩|⟨g,cap,b,rfl,_⟩
 ·exact⟨Option.none,0,by rw[h0]⟩
 ·exact⟨_,_,rfl⟩
theorem je.lowG {b b':Nat}{xs:List (Int×Bool)}(h:je w b v xs)(c:b'≤b:=by omega):je w b' v xs:=by
 obtain⟨h1,h2⟩:=h;refine⟨h1,?_⟩;rcases h2 with h2|⟨g,cap,a,e,d,r⟩
 ·exact Or.inl h2
 ·exact Or.inr ⟨g,cap,a,e,nz c d,r⟩
structure DvD (w W:World)(B:Nat)(q:Int)(l:List (Int×Bool))(v:Value):Prop where
 c:zr 0 0 w W
 s:w.heap.size<B∧B<W.heap.size
 r:W.heap[w.heap.size]?=some (zi #[.bool false,za 0,zc] 280)
 b:W.heap[B]?=some (zi #[za q,v] 169)
 o:je W (B+1) v l
theorem DvD.grow {l:List (Int×Bool)}(h:DvD w W B q l v)(c:zr 0 0 W W'):DvD w W' B q l v:=by
 have:=h.s;exact⟨h.c.trans c,⟨h.s.1,nE h.s.2 c.size⟩,c.bt h.r,c.bt h.b,h.o.chg c (fun _ _=>zk)⟩
theorem DvD.put {l l':List (Int×Bool)}{v':Value}(h:DvD w W B q l v)(o:je W' (B+1) v' l')(c:zr (B+1) W.heap.size W W'):
  W'.heap[B]?=some (zi #[za q,v] 169)∧DvD w (W'.setCell ⟨B,1,none⟩ v') B q l' v':=by
 have hs:=h.s;have cs:=c.size;have a:zr B (B+1) W' (W'.setCell ⟨B,1,none⟩ v'):=zr.setCell (p:=⟨B,1,none⟩) (zr.refl _ _ _) (Or.inl ⟨mP _,m5 _⟩) _;have d:=c.bt h.b;refine⟨d,(h.c.step c).step a,by have:=a.size;omega,a.bt ((c.bk _).trans h.r),?_,o.chg a (fun g e=>by have:=(o.lt g e).1;omega)⟩;simp[World.setCell,rH,d]
theorem eR (w:World)(l:Byt xs)(k:zC w lo hi .u8 a xs)(g:kindOf xs≠2):
  Calls Tryz.prog 178 #[a] w fun e w'=>e= .returned (rV3 false 0 (zc))∧zr 0 0 w w':=by
 have d:zr 0 0 w (w.alloc (zi #[.bool false,za 0,zc] 280)):=zr.al w;have c:=jw _ l (k.chg d zk);obtain⟨ao,cap,rfl,-⟩:=k;have j:Hid _:=d;have i:Hid _:=zt w (zi #[.bool false,za 0,zc] 280);obtain⟨h,b⟩: ∃h,h=kindOf xs:=⟨_,rfl⟩;change Calls _ _ _ _ fun e w'=>e= .returned (za (kindOf xs))∧zr 0 0 _ w' at c;rw[←b] at c g;have m:(h !=(2:Int))=true:=by simp[g]
 clear b g d;have hs:w.heap.size<(w.alloc (zi #[.bool false,za 0,zc] 280)).heap.size:=zn;go_enter Tryz.func178,Tryz.ntmps178;go_wp2_with fail;generalize w.alloc (zi #[.bool false,za 0,zc] 280)=w0 at*;refine c.mono ?_;rintro e q ⟨rfl,f⟩;obtain⟨⟨r,s,t⟩,n,o,p⟩:=tri ((f.bk _ hs).trans i);have HC1:Hid _:=Ek (j.trans f);clear c f i j hs;go_wp2;exact mT (v:=rV3 false 0 (zc)) (by simp[results,Tryz.results178,go_sem,rV3, *]) rfl ⟨rfl,HC1.out _ _ _⟩
theorem VB {ts:List (Int×Bool)}(r:(FB.des q ts).ok):qI (((FB.des q ts).bs.drop 6).take 2)=ts.length∧qI (((FB.des q ts).bs.drop 8).take 4)=q∧ ∀i,i<ts.length→qI (((FB.des q ts).bs.drop (12+3*i)).take 2)=(ts.getD i (0,false)).1∧(FB.des q ts).bs.getD (12+3*i+2) 0=if(ts.getD i (0,false)).2 then 1 else 0:=by
 obtain⟨p,f,n⟩:=r;have a:=pn2 (v:=(ts.length:Int));have b:=pn4 (v:=q) zk p.2;obtain⟨j,l,g⟩:=Xt (k:=2) (c:=(ts.length:Int)) (q:=q) (Y:=zP ts) a b;refine⟨j,l,fun i hi=>?_⟩;have o:ts.getD i (0,false)∈ts:=by
  rw[mV,mZ hi];exact nj hi
 have m:=Js f.2 _ o;have h2:=Zc m;have e:(qk (zD 2 (ts.length:Int) q++zP ts)).drop (12+3*i)=((qk (zD 2 (ts.length:Int) q++zP ts)).drop 12).drop (3*i):=by rw[pK]
 have h3:((qk (zD 2 (ts.length:Int) q++zP ts)).drop (12+3*i)).take 3=XF (ts.getD i (0,false)):=by rw[e,g];exact aK (Js f.2) _ i hi
 show qI (((qk (zD 2 (ts.length:Int) q++zP ts)).drop (12+3*i)).take 2)=_∧(qk (zD 2 (ts.length:Int) q++zP ts)).getD (12+3*i+2) 0=_;generalize ts.getD i (0,false)=t at*;generalize qk (zD 2 (ts.length:Int) q++zP ts)=X at*;unfold XF at h3;refine⟨?_,?_⟩
 ·have:(X.drop (12+3*i)).take 2=zx t.1 2:=by
   have h:(X.drop (12+3*i)).take 2=((X.drop (12+3*i)).take 3).take 2:=by rw[List.take_take];congr 1
   rw[h,h3,oG zk,ny zk]
  rw[this];exact jc _ _ zk (fun e=>by rw[e] at h2;simp at h2)
 ·have d:((X.drop (12+3*i)).take 3)[2]?=X[12+3*i+2]?:=by rw[List.getElem?_take_of_lt zk,oQ]
  rw[h3,oM zk,h2] at d;rw[mV,←d];rfl
theorem eS (w:World){ts:List (Int×Bool)}(hx:(FB.des q ts).ok)(hv:zC w lo hi .u8 a (FB.des q ts).bs):
  Calls Tryz.prog 178 #[a] w fun e w'=> ∃v,e= .returned (rV3 true q v)∧je w' w.heap.size v ts∧zr 0 0 w w':=by
 have G:=(FB.head hx).1;have y:=FB.len hx;have hB:=FB.byt hx;obtain⟨g6,g8,I⟩:=VB hx;obtain⟨hq,hr,z⟩:=hx;have Z:Hid (∀(W:World) (g cap:Nat),(∀i,i<ts.length→W.cell? ⟨g,0+i*2,none⟩=some (za (ts.getD i (0,false)).1)∧W.cell? ⟨g,0+i*2+1,none⟩=some (.bool (ts.getD i (0,false)).2))→Calls Tryz.prog 96 #[.agg #[za q,zg g ts.length cap]] W fun e w'=> ∃v,e= .returned v∧zu w' W.heap.size 5 v (FB.des q ts).bs∧zr 0 0 W w'):=
  fun W g cap h=>Xh W q ts g 0 cap hq.1 hq.2 z.1 z.2 (by have:=EE hr;rw[mO] at this;exact this) h
 change kindOf _=2 at G;clear hr;generalize (FB.des q ts).bs=xs at*;obtain⟨n,hn⟩: ∃n,n=ts.length:=⟨_,rfl⟩;have U:Hid (n=ts.length):=hn;rw[←hn] at z g6 I Z;clear hn;have H:Hid (zC w lo hi .u8 a xs):=hv;obtain⟨ao,cap,rfl,ar,⟨ap,_⟩,E⟩:=hv;have C0:zr 0 0 w (w.alloc (zi #[.bool false,za 0,zc] 280)):=zr.al w;have hK:=jw _ hB (H.chg C0 zk);have hs:w.heap.size+1≤(w.alloc (zi #[.bool false,za 0,zc] 280)).heap.size:=zn
 have HB:Hid _:=zt w (zi #[.bool false,za 0,zc] 280);have HC:Hid _:=C0;change Calls _ _ _ _ fun e w'=>e= .returned (za (kindOf xs))∧zr 0 0 _ w' at hK;rw[G] at hK;obtain⟨b,f,rfl,_,_,ag⟩:=E.resolve_left (fun h=>by rw[h] at y;cases y);have C:Hid (xs.length=64):=y;have K:Hid (Byt xs):=hB;rw[y] at H ap hK;rw[y];have az:(8:Int)≤(cap:Int):=zk;have aE: ¬cap=6:=zk;have au:(12:Int)≤(cap:Int):=zk;have aF: ¬cap=8:=zk
 have HG:Hid (∀(k m:Nat) (W:World),k+m≤64→0<m→zr 0 0 w W→Calls Tryz.prog 51 #[zj (some ⟨b,f+k,none⟩) m (cap-k)] W fun e w'=>e= .returned (za (qI ((xs.drop k).take m)))∧qj W w'):=fun k m W aA hm h=>by
  have hl:((xs.drop k).take m).length=m:=by rw[mW,m8,C.out];omega
  have:=jt W ((K.drop k).take m) ((zC.part (l:=k) (n:=m) (by rw[C.out];exact H) (by rw[C.out];omega) hm (cap-k)).chg h zk);exact this
 have aa:Hid (∀W,zr 0 0 w W→Calls Tryz.prog 51 #[zj (some ⟨b,f+6,none⟩) 2 (cap-6)] W fun e w'=>e= .returned (za n)∧qj W w'):=fun W h=>g6▸HG.out 6 2 W zk zk h;have ak:Hid (∀W,zr 0 0 w W→Calls Tryz.prog 51 #[zj (some ⟨b,f+8,none⟩) 4 (cap-8)] W fun e w'=>e= .returned (za q)∧qj W w'):=fun W h=>g8▸HG.out 8 4 W zk zk h;have am:Hid (∀(k:Nat) (W:World),k<n→zr 0 0 w W→(Calls Tryz.prog 51 #[zj (some ⟨b,f+(12+3*k),none⟩) 2 (cap-(12+3*k))] W fun e w'=>e= .returned (za (ts.getD k (0,false)).1)∧qj W w')∧W.cell? ⟨b,f+(12+3*k+2),none⟩=some (zb (if(ts.getD k (0,false)).2 then 1 else 0))):=fun k W G h=>by
  have:=HG.out (12+3*k) 2 W zk zk h;rw[(I k G).1] at this;refine⟨this,?_⟩;rw[←(I k G).2];exact h.cell (ag _ (by rw[C.out];omega))
 have aw: ¬((17:Int)<(n:Int)):=zk;have ax:n≤17:=z.2;have aB:1≤n:=z.1;clear G y hB E C0 g6 g8 I HG z ar ag;go_enter Tryz.func178,Tryz.ntmps178;go_wp2_with fail;generalize w.alloc (zi #[.bool false,za 0,zc] 280)=wA at*;refine hK.mono ?_;rintro e w1 ⟨rfl,c1⟩;have s1:=c1.size;have X:Hid _:=(c1.bk _ hs).trans HB;have L:Hid _:=HC.trans c1;have R:w.heap.size+1≤w1.heap.size:=zk;clear hK c1 HB HC hs s1;go_wp2_with fail
 refine(aa w1 L).mono ?_;rintro e w2 ⟨rfl,t⟩;have Y:Hid _:=((t.chg 0 0).bk _ R).trans X;have M:Hid _:=L.trans (t.chg 0 0);have S:w.heap.size+1≤w2.heap.size:=by rw[t.heap];exact R
 clear t X L R;go_wp2_with fail;refine(ak w2 M).mono ?_;rintro e T ⟨rfl,t⟩;have e3:T.heap.size=w2.heap.size:=by rw[t.heap]
 have HI:Hid (DvD w (T.alloc (zi #[za q,zc] 169)) w2.heap.size q (ts.take 0) (zc)):=by
  have cz:zr 0 0 T (T.alloc (zi #[za q,zc] 169)):=zr.al T;have hz:=zt T (zi #[za q,zc] 169);rw[e3] at hz;exact⟨(M.trans (t.chg 0 0)).trans cz,⟨S,by simp[e3]⟩,((((t.chg 0 0).trans cz).bk _ S).trans Y),hz,⟨rfl,Or.inl ⟨rfl,rfl⟩⟩⟩
 clear M Y S;go_wp2;generalize T.alloc (zi #[za q,zc] 169)=w4 at*;generalize w2.heap.size=B at*;clear t e3;go_loopw [4] (fun s4 wr=> ∃(k:Nat) (v:Value),k≤n∧s4=za k∧DvD w wr B q (ts.take k) v) (fun s4 _=>n-(intOf s4).toNat)
 case atStart=>exact⟨0,_,mX _,rfl,HI⟩
 case round=>
  obtain⟨k,v,G,rfl,hI⟩:=hrel;clear HI;go_wp2_with fail;refine(aa wr hI.c).mono ?_;rintro e w5 ⟨rfl,t⟩;have p:=hI.grow (t.chg 0 0);clear hI t;by_cases x:k<n
  ·have hi':(k:Int)<(n:Int):=zk;obtain⟨va,vc,rfl⟩:=p.o.slG;obtain⟨m,hm⟩: ∃m:Nat,m=12+3*k:=⟨_,rfl⟩;have N:Hid _:=am.out k;rw[←hm] at N;have ad:Hid (ts.take (k+1)=ts.take k++ [ts.getD k (0,false)]):=by
    show _=_;rw[sO,mV,mZ (by rw[←U.out];exact x)];rfl
   have Q:(ts.take k).length=k:=by rw[mW,←U.out];omega
   rw[Q] at p;have an:Hid _:=Q;obtain⟨V,A,ai⟩: ∃a b,ts.getD k (0,false)=(a,b):=⟨_,_,rfl⟩;rw[ai] at N ad;have e1:(12:Int)+3*(k:Int)=(m:Int):=zk;have q1:(0:Int)≤(m:Int)+2:=zk;have q2:(m:Int)+2≤(cap:Int):=zk;have q3: ¬cap=m:=zk;have q4:(m:Int)≤max ((m:Int)+2) 0:=zk;have q5:((m:Int)+2).toNat-m=2:=zk;have q6: ¬(m:Int)+2<(m:Int):=zk;have q7:(m:Int)+2<64:=zk;have q8:((m:Int)+2).toNat=m+2:=zk;have x1:IntKind.i64.wrap (3*(k:Int))=3*(k:Int):=by rw[mS];omega
   have x2:IntKind.i64.wrap (m:Int)=(m:Int):=by rw[mS];omega
   have x3:IntKind.i64.wrap ((m:Int)+2)=(m:Int)+2:=by rw[mS];omega
   have ht:((if A then(1:Int) else 0)==1)=A:=by cases A<;>rfl
   clear hm Q ai;have HI0:Hid (DvD w w5.drew B q (ts.take k) (zj va k vc)):=p.grow (zr.drew (zr.refl 0 0 w5));have Hby:Hid _:=(N w5.drew x HI0.c).2;clear p;go_wp2;refine wRg 18 (fun w':World=>w'.heap[B]?=some (zi #[za q,zj va k vc] 169)∧w'.cell? ⟨b,f+(m+2),none⟩=some (zb (if A then 1 else 0))) ?_;generalize w5.drew=wd at*;refine wTk 0 (.pointer (some ⟨B,1,none⟩)) rfl (fun w' d=>zm) ⟨HI0.out.b,Hby.out⟩ ?_
   go_simp;refine wTk 1 (zj va k vc) rfl (fun w' d=>by obtain⟨h4,h5,_,_⟩:=zw d.1;go_simp) ⟨HI0.out.b,Hby.out⟩ ?_;go_simp;refine wTk 2 (zj (some ⟨b,f,none⟩) 64 cap) rfl (fun w' d=>zm) ⟨HI0.out.b,Hby.out⟩ ?_;go_simp;refine wTk 3 (za m) rfl (fun w' d=>zm) ⟨HI0.out.b,Hby.out⟩ ?_;go_simp;refine wTk 4 (za m) rfl (fun w' d=>zm) ⟨HI0.out.b,Hby.out⟩ ?_;go_simp;refine wTk 5 (za ((m:Int)+2)) rfl (fun w' d=>zm) ⟨HI0.out.b,Hby.out⟩ ?_
   go_simp;refine wTk 6 (zj (some ⟨b,f+m,none⟩) 2 (cap-m)) rfl (fun w' d=>zm) ⟨HI0.out.b,Hby.out⟩ ?_;go_simp;refine wTk 8 (zj (some ⟨b,f,none⟩) 64 cap) rfl (fun w' d=>zm) ⟨HI0.out.b,Hby.out⟩ ?_;go_simp;refine wTk 9 (za m) rfl (fun w' d=>zm) ⟨HI0.out.b,Hby.out⟩ ?_;go_simp;refine wTk 10 (za ((m:Int)+2)) rfl (fun w' d=>zm) ⟨HI0.out.b,Hby.out⟩ ?_;go_simp;refine wTk 11 (.pointer (some ⟨b,f+(m+2),none⟩)) rfl (fun w' d=>zm) ⟨HI0.out.b,Hby.out⟩ ?_
   go_simp;refine wTk 12 (zb (if A then 1 else 0)) rfl (fun w' d=>by have h4:=d.2;go_simp) ⟨HI0.out.b,Hby.out⟩ ?_;go_simp;refine wTk 13 (.bool A) rfl (fun w' d=>zm) ⟨HI0.out.b,Hby.out⟩ ?_;go_simp;refine wOn 7 rfl ?_;refine zv 51 #[zj (some ⟨b,f+m,none⟩) 2 (cap-m)] zq (N.out wd x HI0.out.c).1 ?_;rintro e wa ⟨rfl,ta⟩;have D:Hid _:=HI0.grow (ta.chg 0 0);have O:Hid _:=(N wa x D.c).2;clear ta HI0 Hby;refine⟨_,rfl,fun _=>⟨D.b,O⟩,?_⟩
   go_simp;refine wTk 14 (.agg #[za V,.bool A]) rfl (fun w' d=>zm) ⟨D.out.b,O.out⟩ ?_;go_simp;have ae:Hid _:=zt wa (zi #[za V,.bool A] 174);have j:Hid _:=D.grow (zr.alloc (zr.refl 0 0 wa) (zi #[za V,.bool A] 174));obtain⟨ic,aq,ah,F,av⟩:=na Tryz.infoG;refine wOn 15 rfl ?_;refine oe 167 174 1 #[(0,.tmp 44)] rfl #[za V,.bool A] ic _ Tryz.underlying167 aq ah (by rw[F];decide) (by rw[F];decide) (by rw[F,oh];refine NX _ ?_ _ _;simp) ?_
   generalize wa.alloc (zi #[za V,.bool A] 174)=wb at*;refine⟨fun _=>⟨j.b,(N wb x j.c).2⟩,?_⟩;go_simp;refine wOn 16 rfl ?_;refine Uz (.tmp 31) (.tmp 45) rfl (B+1) _ (ts.take k) rfl j.o wa.heap.size 1 (V,A) rfl ae (by rw[an.out];omega) (by have:=j.s;omega) ?_;intro v8 w8 o8 h8;rw[←ad.out] at o8;obtain⟨a8,c8,e8⟩:=o8.slG;rw[mW,←U.out,ol zk] at e8;subst e8;obtain⟨P,hF⟩:=j.put o8 (zr.ofGrown0 h8 (fun k G=>(j.o.lt k G).1))
   have HF:Hid _:=hF;have ac:Hid _:=P;have af:Hid _:=(N w8 x (j.c.step (zr.ofGrown0 (B:=B+1) h8 (fun k G=>(j.o.lt k G).1)) (by have:=j.s;omega))).2;refine⟨fun _=>⟨ac,af⟩,?_⟩;clear D j ae o8 h8 hF O;obtain⟨z0,z1,y0,y1⟩:=zw P;clear P;go_simp;refine wTk 17 (.pointer (some ⟨B,1,none⟩)) rfl (fun w' d=>zm) ⟨ac.out,af.out⟩ ?_;go_simp;refine wOn 18 rfl ?_;go_simp;refine wDn ?_;clear z0 z1 y0 y1;go_wp2;go_roundw
   case rel=>exact⟨k+1,_,zk,by go_num,HF.out⟩
   case measure=>simp[intOf];omega
  ·obtain rfl:k=n:=zk;have aC: ¬(k:Int)<(k:Int):=zk;have J:ts.take k=ts:=ny (by rw[←U.out];exact mP _);rw[J] at p;obtain⟨g,gc,e,-,-,hcl⟩:=p.o.cells (by rw[←U.out];omega);rw[←U.out] at e hcl;subst e;have hE:=Z.out w5 g gc hcl;obtain⟨k0,k1,_,_⟩:=zw p.b;have ab:Hid _:=p;clear p hcl J x;go_wp2_with fail;clear k0 k1;refine hE.mono ?_;rintro e w6 ⟨v6,rfl,o6,c6⟩;have aj:=o6.seen (by rw[C.out];omega);have u:Hid _:=ab.grow c6
   obtain⟨e6,l6,ay,rfl⟩:=zF o6;have hS:=j5 w6 K K aj (H.chg u.c zk);rw[mR rfl] at hS;clear hE o6 c6 aj ab;go_wp2_with fail;refine hS.mono ?_;rintro e w7 ⟨rfl,aD⟩;subst w7;clear hS;obtain⟨k0,k1,_,_⟩:=zw u.b;obtain⟨⟨z1,z2,z3⟩,f1,f2,f3⟩:=tri u.r;have HF:Hid (∀u0 u1 u2:Value,je (((w6.setCell (zd w.heap.size) u0).setCell ⟨w.heap.size,1,none⟩ u1).setCell ⟨w.heap.size,2,none⟩ u2) w.heap.size (zg g k gc) ts∧zr 0 0 w (((w6.setCell (zd w.heap.size) u0).setCell ⟨w.heap.size,1,none⟩ u1).setCell ⟨w.heap.size,2,none⟩ u2)):=fun u0 u1 u2=>by
    have cc:zr w.heap.size (w.heap.size+1) w6 (((w6.setCell (zd w.heap.size) u0).setCell ⟨w.heap.size,1,none⟩ u1).setCell ⟨w.heap.size,2,none⟩ u2):=by
     refine zr.setCell (zr.setCell (zr.setCell (zr.refl _ _ _) ?_ _) ?_ _) ?_ _<;>exact Or.inl ⟨mP _,m5 _⟩
    have hs:=u.s;exact⟨(u.o.chg cc (fun g hg=>by have:=(u.o.lt g hg).1;omega)).lowG,u.c.step cc⟩
   clear u;go_wp2;exact mT (v:=rV3 true q (zg g k gc)) (by simp[results,Tryz.results178,go_sem,rV3, *]) rfl ⟨_,rfl,HF.out _ _ _⟩
theorem kf (K:Nat→Bool)(ps:List Wr)(b:Nat)(D:List Int): ∀k,sld K ps b D k=D∨ ∃j,j<k∧(ps.getD j (0,[])).1=(b:Int)∧sld K ps b D k=(ps.getD j (0,[])).2
 |0=>Or.inl rfl
 |k+1=>by
  unfold sld
  split
  ·rename_i h
   exact Or.inr ⟨k,by omega,h.1,rfl⟩
  ·rcases kf K ps b D k with h|⟨j,h1,h2⟩
   ·exact Or.inl h
   ·exact Or.inr ⟨j,by omega,h2⟩
theorem KT {d:Dsk}(g:qL d)(e:d.pN= [])(a:List Wr)(f:a.length≤600)(h: ∀p∈a,0≤p.1∧p.1<((d.dR.length/64:Nat):Int)∧p.2.length=64):
  Zt d (a.map fun p=>((1,p.1,p.2):Opx))=some ⟨d.dR,a⟩∧qL ⟨d.dR,a⟩∧ ∀K:Nat→Bool,(setD K ⟨d.dR,a⟩).dR.length=d.dR.length∧ ∀b:Nat,blk (setD K ⟨d.dR,a⟩).dR b=blk d.dR b∨ ∃j,j<a.length∧(a.getD j (0,[])).1=(b:Int)∧blk (setD K ⟨d.dR,a⟩).dR b=(a.getD j (0,[])).2:=by
 have h1:=Uj a d (by rw[e];simpa using f) h;rw[e,nG] at h1;have c:qL ⟨d.dR,a⟩:=JM h1 g;refine⟨h1,c,fun K=>⟨j7 K _ c _ nlR,fun b=>?_⟩⟩;have h2:blk (setD K ⟨d.dR,a⟩).dR b=_:=EX K ⟨d.dR,a⟩ c b a.length nlR;rw[h2];exact kf K a b (blk d.dR b) a.length
def UU (D:List Int) (F G:Nat→FB) (i:Nat):FB:=if blk D (2+i)=(G i).bs then G i else F i
theorem dI (D:List Int)(F G:Nat→FB)(i:Nat):UU D F G i=G i∨UU D F G i=F i:=by
 unfold UU;split<;>simp
theorem qF.mix {d D:Dsk}{F G:Nat→FB}{st sq st' sq':Int}(h:qF d n sz F st sq)(a: ∀i,i<sz→(G i).ok)(b:D.dR.length=d.dR.length)(c:D.pN= [])(h1:(0≤st'∧st'≤sz)∧1≤sq'∧sq'≤4294967295)(h2:blk D.dR 1=qz 106 108 111 103 1 sz sq' st')
  (h3: ∀i,i<sz→blk D.dR (2+i)=(F i).bs∨blk D.dR (2+i)=(G i).bs):qF D n sz (UU D.dR F G) st' sq':=by
 refine⟨b.trans h.dR,c,h.big,h1,h2,fun i hi=>?_,fun i hi=>?_⟩
 ·rcases dI D.dR F G i with e|e<;>rw[e]
  ·exact a i hi
  ·exact h.ok i hi
 ·unfold UU;split
  ·assumption
  ·rename_i e;rcases h3 i hi with e'|e'
   ·exact e'
   ·exact absurd e' e
theorem ke (K:Nat→Bool){d:Dsk}(h:d.pN= []):setD K d=d:=by
 obtain⟨a,b⟩:=d
 cases h
 rfl
theorem kw {d:Dsk}{F:Nat→FB}{st sq:Int}(h:qF d n sz F st sq)(p:Nat)(xs:List FB)(w:xs.length≤sz)(t: ∀x∈xs,x.ok)(j:Nat)(E:j≤xs.length+1:=by omega):
  ∃X,Zt d ((jl sz ((p:Int)+1) (xs.map FB.bs) xs.length++ [(2,0,[])]).take j)=some X∧qL X∧ ∀K,qF (setD K X) n sz (UU (setD K X).dR F (QD F sz p xs)) st sq:=by
 have D:=h.big;have hs:0<sz:=zk;have l:=Nm (p:=p) h.ok t;by_cases C:j=xs.length+1
 ·obtain⟨X,o,b⟩:=VQ h p xs w t;refine⟨X,by rw[ny (by rw[mL,qM];simp;omega)];exact o,b.valid,fun K=>?_⟩;rw[ke K b.pN];exact h.mix l (b.dR.trans h.dR.symm) b.pN h.sb b.sup (fun i hi=>Or.inr (b.at' i hi))
 obtain⟨c,a⟩: ∃c:List Wr,c=(List.range j).map fun i=>((((2+(p+i) % sz:Nat):Int)),(xs.map FB.bs).getD i []):=⟨_,rfl⟩;have s:c.length=j:=by rw[a];simp
 have k: ∀i,i<xs.length→(xs.map FB.bs).getD i []=(xs.getD i (.raw [])).bs:=fun i hi=>by simp[hi]
 have r: ∀i,i<xs.length→(xs.getD i (.raw []))∈xs:=fun i hi=>by rw[mV,mZ hi];exact nj hi
 have g: ∀i,i<j→c.getD i (0,[])=((((2+(p+i) % sz:Nat):Int)),(xs.map FB.bs).getD i []):=fun i hi=>by rw[a];simp[hi]
 have f:(jl sz ((p:Int)+1) (xs.map FB.bs) xs.length++ [(2,0,[])]).take j=c.map fun p=>((1,p.1,p.2):Opx):=by
  rw[oG (by rw[qM];omega)];unfold jl;rw[←rD,List.take_range,ol zk,a,oR];apply pz;intro i _;simp only[Function.comp];congr 2;unfold qi;have e:((p:Int)+1-1+(i:Int)) % (sz:Int)=(((p+i) % sz:Nat):Int):=by
   rw[show(p:Int)+1-1+(i:Int)=((p+i:Nat):Int) by omega];rfl
  rw[e];omega
 obtain⟨o,b,A⟩:=KT h.valid h.pN c (by rw[s];omega) (fun q z=>by
  rw[a] at z;obtain⟨i,hi,rfl⟩:=m9.1 z;have hi:=pq.1 hi;have y:=nF (p+i) hs;refine⟨by simp only;omega,?_,?_⟩
  ·rw[h.dR];simp only;omega
  ·simp only;rw[k i zk];exact FB.len (t _ (r i zk)))
 rw[f];refine⟨_,o,b,fun K=>?_⟩;obtain⟨B,v⟩:=A K;refine h.mix l B rfl h.sb ?_ (fun i hi=>?_)
 ·rcases v 1 with e|⟨m,y,e,_⟩
  ·exact e.trans h.sup
  ·rw[g m zk] at e;change ((2+(p+m) % sz:Nat):Int)=((1:Nat):Int) at e;omega
 ·rcases v (2+i) with e|⟨m,y,e,u⟩
  ·exact Or.inl (e.trans (h.at' i hi))
  ·rw[g m zk] at e u;change ((2+(p+m) % sz:Nat):Int)=((2+i:Nat):Int) at e;right;obtain rfl:(p+m) % sz=i:=zk;rw[u,Nl hs zk w];exact k m zk
theorem LI.torn {d:Dsk}{F:Nat→FB}{st sq hd us q0:Nat}{ts:List Tx}(h:LI d sz F st sq hd us q0 ts){t:Tx}(y:ZQ ((sz:Int)+2) ((sz:Int)+155) t)(E:t.seq=sq)(hl:(TL t).length≤sz-us)(k:Nat)(f:k≤(Zq sz st sq hd us t).length)(a:List Int)(C:a.length≤600):
  ∃st' J:Nat,qF (Qb (doD d (Zq sz st sq hd us t) k) a) (sz+156) sz (UU (Qb (doD d (Zq sz st sq hd us t) k) a).dR F (QD F sz (hd-1) (qx t))) st' J∧J≤100000∧((st'=0∧st=0)∨(st'≠0∧st'=(if st=0 then hd else st)∧J+ts.length=sq)):=by
 have Y:=h.valid;have T:=h.hdb;have R:=h.sqb;have Z:=h.log.big;have hu:=h.usb;have H:=jJ h.log.valid;have W:0<sz:=zk;have I:(qx t).length=(TL t).length:=by rw[←jQ y.v,mO]
 have A:=QE y.v y.b;have G:qv sz st sq hd us t=true:=by
  unfold qv;rw[Y,qu y.v,mR (show(sq:Int)=t.seq from E.symm),mR (show(sq:Int)<4294967295 by omega),mR (show((TL t).length:Int)≤(sz:Int)-us by omega)];rfl
 have P:=Nm (p:=hd-1) h.log.ok A;unfold Zq at f⊢;rw[mM G] at f⊢;obtain⟨os,c⟩: ∃os,os=zG sz st sq hd++jl sz hd (TL t) (TL t).length++ [(2,0,[])]:=⟨_,rfl⟩;rw[←c] at f⊢;have D:os.length≤4000:=by
  rw[c,mL,mL,qM];have:(zG sz st sq hd).length≤2:=by unfold zG;split<;>simp[jh]
  simp;omega
 have l: ∀X,Zt d (os.take k)=some X→Qb (doD d os k) a=setD (kp a) X:=by
  intro X Q;unfold doD;rw[mM ⟨H,D⟩,fe os k f,Q];unfold Qb;rw[mM ⟨jJ (JM Q h.log.valid),C⟩];rfl
 have w: ∀(u:Dsk) (o L j:Nat),qF u (sz+156) sz F o L→j≤(TL t).length+1→ ∃X,Zt u ((jl sz hd (TL t) (TL t).length++ [(2,0,[])]).take j)=some X∧ ∀K,qF (setD K X) (sz+156) sz (UU (setD K X).dR F (QD F sz (hd-1) (qx t))) o L:=by
  intro u o L j h1 hj;obtain⟨X,q,_,g⟩:=kw h1 (hd-1) (qx t) zk A j;rw[jQ y.v,I,show(((hd-1:Nat):Int)+1)=(hd:Int) by omega] at q;exact⟨X,q,g⟩
 by_cases hs:st=0
 ·have s:zG sz st sq hd=jh (qz 106 108 111 103 1 sz sq hd):=by unfold zG;rw[mM zk]
  have S:=h.z hs;by_cases U:k≤1
  ·obtain⟨q,M,g⟩:=KT h.log.valid h.log.pN ([((1:Int),qz 106 108 111 103 1 sz sq hd)].take k) (by rw[mW];simp;omega) (fun p V=>by
    obtain rfl:=nx.1 (ot V);refine⟨zn,?_,NB ⟨zk,zk⟩ ⟨zk,zk⟩ ⟨zk,zk⟩⟩;rw[h.log.dR];show(1:Int)<_;omega)
   have B:os.take k=([((1:Int),qz 106 108 111 103 1 sz sq hd)].take k).map fun p=>((1,p.1,p.2):Opx):=by
    rw[c,s];obtain rfl|rfl:k=0∨k=1:=zk
    ·rfl
    ·rfl
   rw[l _ (B▸q)];obtain⟨r,N⟩:=g (kp a);have O: ∀i,i<sz→blk (setD (kp a) ⟨d.dR,[((1:Int),qz 106 108 111 103 1 sz sq hd)].take k⟩).dR (2+i)=(F i).bs:=fun i hi=>by
    rcases N (2+i) with e|⟨m,x,e,_⟩
    ·exact e.trans (h.log.at' i hi)
    ·exfalso;rw[mW] at x;simp only[nJ] at x;obtain rfl:m=0:=zk;obtain rfl:k=1:=zk;change (1:Int)=((2+i:Nat):Int) at e;omega
   rcases N 1 with e|⟨m,x,_,e⟩
   ·exact⟨0,q0,h.log.mix P r rfl ⟨⟨zk,zk⟩,h.log.sb.2⟩ (by rw[e,h.log.sup,hs]) (fun i hi=>Or.inl (O i hi)),h.qb,Or.inl ⟨rfl,hs⟩⟩
   ·rw[mW] at x;simp only[nJ] at x;obtain rfl:m=0:=zk;obtain rfl:k=1:=zk;exact⟨hd,sq,h.log.mix P r rfl ⟨⟨zk,zk⟩,zk,zk⟩ e (fun i hi=>Or.inl (O i hi)),R.2,Or.inr ⟨zk,by rw[mM hs],by rw[S.2];simp⟩⟩
  ·obtain⟨u,q,M⟩:=Yb (st':=(hd:Int)) (sq':=(sq:Int)) h.log ⟨zk,zk⟩ ⟨zk,zk⟩;obtain⟨X,g,r⟩:=w u hd sq (k-2) M (by rw[c,s] at f;simp[jh,qM] at f;omega);have B:os.take k=jh (qz 106 108 111 103 1 sz sq hd)++(jl sz hd (TL t) (TL t).length++ [(2,0,[])]).take (k-2):=by
    rw[c,s,nk,List.take_append,ny (by simp[jh];omega)];rfl
   rw[l X (by rw[B,Qs,q];exact g)];exact⟨hd,sq,r _,R.2,Or.inr ⟨zk,by rw[mM hs],by rw[S.2];simp⟩⟩
 ·have s:zG sz st sq hd= []:=by unfold zG;rw[mN zk]
  obtain⟨X,g,r⟩:=w d st q0 k h.log (by rw[c,s] at f;simp[qM] at f;omega);rw[l X (by rw[c,s];exact g)];exact⟨st,q0,r _,h.qb,Or.inr ⟨hs,by rw[mN hs],by have:=(h.n hs).2.2;omega⟩⟩
structure Nx (lo hi:Int)(bs:List (List Int))(q:Int)(t:Tx):Prop where
 g:ZQ lo hi t
 s:t.seq=q
 p:TL t=bs.take (TL t).length
theorem gE {t:Tx}(h:TL t≠ []):qy t:=by
 by_cases a:qy t
 ·exact a
 ·unfold TL at h;rw[qg a] at h;exact absurd rfl h
theorem Us (s:RS)(x:FB):(zJ s x).1.seen=s.seen++ [x.bs]:=by
 unfold zJ;split
 ·split<;>rfl
 ·cases x using FB.el<;>rfl
theorem b9: ∀(xs:List FB) (s:RS),∃k,k≤xs.length∧(zT s xs).seen=s.seen++(xs.take k).map FB.bs:=by
 intro xs
 induction xs with
 |nil=>intro s;exact⟨0,mP _,by simp[zT]⟩
 |cons x r ih=>
  intro s;unfold zT;split
  ·obtain⟨k,h1,h2⟩:=ih (zJ s x).1;refine⟨k+1,by simpa using h1,?_⟩;rw[h2,Us];simp
  ·exact⟨1,zn,by rw[Us];simp⟩
theorem fG: ∀(xs:List FB) (s:RS),(zT s xs).seq=s.seq∨(zT s xs).aw= []:=by
 intro xs
 induction xs with
 |nil=>intro s;exact Or.inl rfl
 |cons x r ih=>
  intro s;have e:(zJ s x).1.seq=s.seq∨((zJ s x).2=false∧(zJ s x).1.aw= []):=by
   unfold zJ;split
   ·split<;>exact Or.inl rfl
   ·cases x using FB.el with
    |com q c m=>exact Or.inr ⟨rfl,rfl⟩
    |rev q rs=>exact Or.inl rfl
    |des q ts=>exact Or.inl rfl
    |raw b=>exact Or.inl rfl
  unfold zT;split
  ·rename_i h;rcases e with e|e
   ·rw[←e];exact ih _
   ·rw[e.1] at h;cases h
  ·rcases e with e|e
   ·exact Or.inl e
   ·exact Or.inr e.2
structure RS.In (lo hi:Int)(s:RS):Prop where
 h: ∀x∈s.homes,(lo≤x.1∧x.1≤hi)∧Byt x.2
 r: ∀x∈s.rV,lo≤x∧x≤hi
 a: ∀x∈s.aw,lo≤x.1∧x.1≤hi
theorem Eh (h:Byt xs)(e:Bool):Byt (jA xs e):=by
 unfold jA;split
 ·refine Byt.app (fun x a=>?_) (h.drop 4);simp[mg] at a;omega
 ·exact h
theorem kt {lo hi:Int}{s:RS}{x:FB}(hs:s.In lo hi)(g:x.ok)(d:x.rng lo hi):(zJ s x).1.In lo hi:=by
 obtain⟨h1,h2,h3⟩:=hs;unfold zJ;split
 ·rename_i t r e;rw[e] at h3;have f:=h3 t zn;have a: ∀y∈r,lo≤y.1∧y.1≤hi:=fun y hy=>h3 y (by simp[hy]);split
  ·refine⟨fun y hy=>?_,h2,a⟩;rcases nu.1 hy with hy|hy
   ·exact h1 y hy
   ·obtain rfl:=nx.1 hy;exact⟨f,Eh (FB.byt g) _⟩
  ·exact⟨h1,h2,a⟩
 ·cases x using FB.el with
  |rev q rs=>
   refine⟨h1,fun y hy=>?_,zn⟩;rcases nu.1 hy with hy|hy
   ·exact h2 y hy
   ·exact d y hy
  |des q ts=>exact⟨h1,h2,d⟩
  |com q c m=>exact⟨h1,h2,zn⟩
  |raw b=>exact⟨h1,h2,zn⟩
theorem iS {lo hi:Int}: ∀(xs:List FB) (s:RS),(∀x∈xs,x.ok∧x.rng lo hi)→s.In lo hi→(zT s xs).In lo hi:=by
 intro xs
 induction xs with
 |nil=>intro s _ hs;exact hs
 |cons x r ih=>
  intro s a hs;have h1:=kt hs (a x zn).1 (a x zn).2;unfold zT;split
  ·exact ih _ (fun y b=>a y (by simp[b])) h1
  ·exact h1
theorem gj {lo hi:Int}(ts:List Tx): ∀(q:Int) (ys:List FB),1≤q→(∀t∈ts,ZQ lo hi t)→(∀i,i<ts.length→(ts.getD i ⟨0,[],[]⟩).seq=q+i)→(∀n c m,FB.com n c m∈ys→n≤q+ts.length)→(∀x∈ys,x.ok∧x.rng lo hi)→
  ∃j,QH lo hi (ts.flatMap qx++ys) q (ts++j)∧(j= []∨ ∃t',j= [t']∧Nx lo hi (ys.map FB.bs) (q+ts.length) t')∧(∀t' f,ZQ lo hi t'→t'.seq=q+ts.length→ys=qx t'++f→j= [t']):=by
 induction ts with
 |nil=>
  intro q ys L _ _ o g;simp only[nH,Int.natCast_zero,Int.add_zero] at o⊢;have d: ∀t' f,ZQ lo hi t'→t'.seq=q→ys=qx t'++f→zT RS.zero ys=⟨TL t',q,t'.homes,t'.rV,[]⟩:=fun t' f h1 h2 h3=>by rw[h3,Kb h1.v h1.b,h2]
  by_cases u:TL (zT RS.zero ys).txn=(zT RS.zero ys).seen∧(zT RS.zero ys).seen≠ []∧(zT RS.zero ys).seq=q
  ·obtain⟨w,G,l⟩:=u;have F:=gE (by rw[w];exact G);have y:=iS (lo:=lo) (hi:=hi) ys RS.zero g ⟨by simp[RS.zero],by simp[RS.zero],by simp[RS.zero]⟩;have D:(zT RS.zero ys).aw= []:=by
    rcases fG ys RS.zero with e|e
    ·rw[l] at e;change q=0 at e;omega
    ·exact e
   obtain⟨k,J,e⟩:=b9 ys RS.zero;have a:ZQ lo hi (zT RS.zero ys).txn:=⟨F,fun x p=>(y.h x p).2,fun x p=>(y.h x p).1,y.r⟩;refine⟨[(zT RS.zero ys).txn],.step _ ?_ l F a.h a.r (.stop ?_),Or.inr ⟨_,rfl,a,l,?_⟩,fun t' f h1 h2 h3=>?_⟩
   ·show zT RS.zero ys=⟨_,q,(zT RS.zero ys).homes,(zT RS.zero ys).rV,[]⟩;rw[w];generalize zT RS.zero ys=s at*;obtain⟨_,_,_,_,_⟩:=s;simp only at D l;rw[D,l]
   ·right;right;intro C;rcases EB (List.drop (TL (zT RS.zero ys).txn).length (List.flatMap qx []++ys)) RS.zero with h|⟨c,m,h⟩
    ·rw[h] at C;change (0:Int)=q+1 at C;omega
    ·have:=o _ c m (rj h);omega
   ·rw[w,e];show(ys.take k).map FB.bs=(ys.map FB.bs).take ((ys.take k).map FB.bs).length;rw[mO,mW,ol J,rD]
   ·rw[d t' f h1 h2 h3];show [(⟨q,t'.homes,t'.rV⟩:Tx)]= [t'];rw[←h2]
  ·refine⟨[],.stop ?_,Or.inl rfl,fun t' f h1 h2 h3=>?_⟩
   ·show TL (zT RS.zero ys).txn≠(zT RS.zero ys).seen∨(zT RS.zero ys).seen= []∨(zT RS.zero ys).seq≠q;by_cases z:TL (zT RS.zero ys).txn=(zT RS.zero ys).seen
    ·by_cases A:(zT RS.zero ys).seen= []
     ·exact Or.inr (Or.inl A)
     ·exact Or.inr (Or.inr fun H=>u ⟨z,A,H⟩)
    ·exact Or.inl z
   ·exfalso;rw[d t' f h1 h2 h3] at u;refine u ⟨?_,fun e=>?_,rfl⟩
    ·show TL ⟨q,t'.homes,t'.rV⟩=TL t';rw[←h2]
    ·have:=nI List.length (jQ h1.v);rw[show TL t'= [] from e,mO] at this;exact NC t' (nT this)
 |cons t r ih=>
  intro q ys L E hs o g;have a:=E t zn;have B:t.seq=q:=by have:=hs 0 zn;simpa using this
  have I:q+((t::r).length:Int)=q+1+(r.length:Int):=by rw[m7];omega
  rw[I] at o⊢;obtain⟨j,h1,h2,h3⟩:=ih (q+1) ys zk (fun x p=>E x (by simp[p])) (fun i hi=>by
   have:=hs (i+1) (by simpa using hi);rw[sP] at this;rw[this];omega) o g
  refine⟨j,?_,h2,h3⟩;rw[nX,nk];have K:(qx t).length=(TL t).length:=by rw[←jQ a.v,mO]
  refine .step t (by rw[Kb a.v a.b,B]) B a.v a.h a.r ?_;rw[←K,sj];exact h1
theorem dw {lo hi:Int}{t:Tx}(h:ZQ lo hi t)(hi':i<(TL t).length:=by omega):kindOf ((TL t).getD i [])=4↔i+1=(TL t).length:=by
 have k:=QE h.v h.b;have e:=jQ h.v;have l:(qx t).length=(TL t).length:=by rw[←e,mO]
 have j:(qx t)[i]'zk∈qx t:=nj _;have f:(TL t).getD i []=((qx t)[i]'zk).bs:=by
  rw[←e,mV,nU,mZ zk];rfl
 rw[f,(FB.head (k _ j)).1];have m:(qx t).length=(QT t.seq t.homes t.rV).length+1:=by unfold qx;rw[mL];rfl
 by_cases g:i<(QT t.seq t.homes t.rV).length
 ·have:(qx t)[i]'zk∈QT t.seq t.homes t.rV:=by
   have d:(qx t)[i]'zk=(QT t.seq t.homes t.rV)[i]:=by unfold qx;rw[List.getElem_append_left g]
   rw[d];exact nj _
  generalize (qx t)[i]'zk=x at this;refine⟨fun a=>?_,fun a=>zk⟩;exfalso;unfold QT at this;rcases nu.1 this with hx|hx
  ·obtain⟨c,_,rfl⟩:=m9.1 hx;change (3:Int)=4 at a;omega
  ·obtain⟨c,_,hx⟩:=rE.1 hx;unfold Yp at hx;rcases oJ.1 hx with rfl|hx
   ·change (2:Int)=4 at a;omega
   ·obtain⟨y,_,rfl⟩:=m9.1 hx;change (0:Int)=4 at a;omega
 ·have d:(qx t)[i]'zk=NM t.seq (BL t.seq t.homes t.rV):=by
   unfold qx;rw[List.getElem_append_right zk];simp
  rw[d];exact⟨fun _=>zk,fun _=>rfl⟩
theorem Nx.at {lo hi:Int}{t:Tx}(h:Nx lo hi bs q t)(hi':i<(TL t).length):(TL t).getD i []=bs.getD i []:=by
 have:(TL t).getD i []=(bs.take (TL t).length).getD i []:=nI (fun l=>l.getD i []) h.p;rw[this,mV,oA,mM hi',mV]
theorem Nx.len {lo hi:Int}{t t':Tx}(h:Nx lo hi bs q t)(a:Nx lo hi bs q t'):TL t=TL t':=by
 have b: ∀ {t t':Tx},Nx lo hi bs q t→Nx lo hi bs q t'→ ¬(TL t).length<(TL t').length:=fun{t t'} h a hl=>by
  have c:=EU (qu h.g.v);have h1:=(dw h.g (i:=(TL t).length-1)).2 zk;rw[h.at zk,←a.at zk] at h1;have:=(dw a.g).1 h1;omega
 have e:(TL t).length=(TL t').length:=by
  have:=b h a;have:=b a h;omega
 rw[h.p,e,←a.p]
def SpR (lo hi:Int):List (List Int)→Int→List Tx→Prop
 |bs,q,[]=> ∀t,¬Nx lo hi bs q t
 |bs,q,t::us=>Nx lo hi bs q t∧SpR lo hi (bs.drop (TL t).length) (q+1) us
theorem fX {lo hi:Int}(ts:List Tx): ∀(q:Int) (d:List (List Int)) (b:List Tx),(∀t∈ts,ZQ lo hi t)→(∀i,i<ts.length→(ts.getD i ⟨0,[],[]⟩).seq=q+i)→SpR lo hi (ts.flatMap TL++d) q b→ ∀t',Nx lo hi d (q+ts.length) t'→ ∃a∈b,a.seq=t'.seq∧TL a=TL t':=by
 induction ts with
 |nil=>
  intro q d b _ _ h t' c;simp only[nH,Int.natCast_zero,Int.add_zero] at c
  cases b with
  |nil=>exact absurd c (h t')
  |cons u b=>
   have h1:Nx lo hi d q u:=h.1;exact⟨u,zn,h1.s.trans c.s.symm,h1.len c⟩
 |cons t r ih=>
  intro q d b g hs h t' c;have j:t.seq=q:=by have:=hs 0 zn;simpa using this
  rw[nX,nk] at h;have f:Nx lo hi (TL t++(r.flatMap TL++d)) q t:=⟨g t zn,j,by rw[List.take_left]⟩
  cases b with
  |nil=>exact absurd f (h t)
  |cons u b=>
   obtain⟨h1,h2⟩:=h;rw[h1.len f,sj] at h2;obtain⟨a,m,e⟩:=ih (q+1) d b (fun x k=>g x (by simp[k])) (fun i hi=>by
    have:=hs (i+1) (by simpa using hi);rw[sP] at this;rw[this];omega) h2 t' (by rw[m7] at c;rw[show q+1+(r.length:Int)=q+((r.length+1:Nat):Int) by omega];exact c)
   exact⟨a,by simp[m],e⟩
theorem LI.found {d:Dsk}{F:Nat→FB}{st sq hd us q0:Nat}{ts:List Tx}(h:LI d sz F st sq hd us q0 ts){t:Tx}(A:ZQ ((sz:Int)+2) ((sz:Int)+155) t)(L:t.seq=sq)(hl:(TL t).length≤sz-us)(k:Nat)(hk:k≤(Zq sz st sq hd us t).length)(j:List Int)(R:j.length≤600){D:Dsk}(Y:D=Qb (doD d (Zq sz st sq hd us t) k) j):
  ∃(st' l:Nat) (a:Nat→FB) (q:List Tx) (ys:List FB),qF D (sz+156) sz a st' l∧l≤100000∧(∀t'∈q,ZQ ((sz:Int)+2) ((sz:Int)+155) t')∧(st'=0→ts= []∧q= [])∧
   (st'≠0→QH ((sz:Int)+2) ((sz:Int)+155) (win a sz (st'-1) sz) l (ts++q)∧win a sz (st'-1) sz=ts.flatMap qx++ys∧(∀i,i<ts.length→(ts.getD i ⟨0,[],[]⟩).seq=(l:Int)+i)∧(l:Int)+ts.length=sq∧(∀t'∈q,Nx ((sz:Int)+2) ((sz:Int)+155) (ys.map FB.bs) sq t'))∧
   ((st'≠0∧ ∀i,i<(TL t).length→blk D.dR (2+(hd-1+i) % sz)=(TL t).getD i [])→q= [t])∧(∀t'∈q,TL t'=TL t→st'≠0∧ ∀i,i<(TL t).length→blk D.dR (2+(hd-1+i) % sz)=(TL t).getD i []):=by
 obtain⟨st',l,h1,h2,h3⟩:=h.torn A L hl k hk j R;rw[←Y] at h1;have hb:=h.log.big;have o:0<sz:=zk;have Z:=h.hdb;have hu:=h.usb;have aa:(qx t).length=(TL t).length:=by rw[←jQ A.v,mO]
 have ab:=QE A.v A.b;rcases h3 with⟨rfl,rfl⟩|⟨T,E,n3⟩
 ·obtain⟨z1,z2⟩:=h.z rfl;exact⟨0,l,_,[],[],h1,h2,zn,fun _=>⟨z2,rfl⟩,fun e=>absurd rfl e,fun e=>absurd rfl e.1,zn⟩
 obtain⟨G,H⟩: ∃G,G=QD F sz (hd-1) (qx t):=⟨_,rfl⟩;obtain⟨a,w⟩: ∃a,a=UU D.dR F G:=⟨_,rfl⟩;rw[←H,←w] at h1;have y: ∀i,a i=G i∨a i=F i:=fun i=>w▸dI D.dR F G i;have P: ∀m,(st'-1+us+m) % sz=(hd-1+m) % sz:=by
  intro m;by_cases hs:st=0
  ·rw[mM hs] at E;rw[(h.z hs).1,E,oF]
  ·rw[mN hs] at E;have:=(h.n hs).1;rw[←E] at this;rw[show hd-1=(st'-1+us) % sz by omega,sR]
 have s: ∀x∈win a sz (st'-1+us) (sz-us),∃i,i<sz∧x=a i:=fun x M=>Vp o M;have Q: ∀i,i<sz→ ∀n c m,a i= .com n c m→n≤(sq:Int):=by
  intro i hi n c m e;rcases y i with e'|e'
  ·rw[e',H] at e;rcases YF (F:=F) (sz:=sz) (p:=hd-1) (xs:=qx t) i with hm|hm
   ·rw[e] at hm;have:=ei hm;omega
   ·rw[e] at hm;have:=h.com i hi n c m hm.symm;omega
  ·have:=h.com i hi n c m (e'▸e);omega
 have S: ∀i,i<sz→(a i).rng ((sz:Int)+2) ((sz:Int)+155):=by
  intro i hi;rcases y i with e'|e'<;>rw[e']
  ·rw[H];rcases YF (F:=F) (sz:=sz) (p:=hd-1) (xs:=qx t) i with hm|hm
   ·exact aO A _ hm
   ·rw[hm];exact h.rng i hi
  ·exact h.rng i hi
 have X:win a sz (st'-1) us=ts.flatMap qx:=by
  by_cases hs:st=0
  ·rw[(h.z hs).1,(h.z hs).2];rfl
  ·rw[mN hs] at E;obtain⟨m1,m2,_⟩:=h.n hs;rw[←m2,E];have C:win G sz (st-1) us=win F sz (st-1) us:=by
    rw[←EQ (F:=F) (sz:=sz) (p:=st-1) (k:=us) (xs:=qx t) o];unfold win;apply pz;intro i _;rw[H];unfold QD gap;rw[show hd-1=(st-1+us) % sz by omega,Nat.mod_mod]
   unfold win at C⊢;apply pz;intro i hi;have N:=List.map_inj_left.1 C i hi;rcases y ((st-1+i) % sz) with e'|e'
   ·rw[e'];exact N
   ·exact e'
 obtain⟨ys,f⟩: ∃ys,ys=win a sz (st'-1+us) (sz-us):=⟨_,rfl⟩;have r:win a sz (st'-1) sz=ts.flatMap qx++ys:=by
  rw[f,←X,←Xv];congr 1;omega
 have K:(l:Int)+(ts.length:Int)=sq:=zk;have u: ∀i,i<ts.length→(ts.getD i ⟨0,[],[]⟩).seq=(l:Int)+i:=by
  intro i hi;have:=h.seqs i hi;rw[this];by_cases hs:st=0
  ·rw[(h.z hs).2] at hi;simp at hi
  ·have:=(h.n hs).2.2;omega
 obtain⟨q,s1,U,V⟩:=gj (lo:=(sz:Int)+2) (hi:=(sz:Int)+155) ts l ys (by have:=h1.sb.2.1;omega) h.ok u (fun n c m hm=>by
  obtain⟨i,hi,e⟩:=s _ (f▸hm);have:=Q i hi n c m e.symm;omega) (fun x M=>by
  obtain⟨i,hi,rfl⟩:=s _ (f▸M);exact⟨h1.ok i hi,S i hi⟩)
 rw[K] at U V;have I: ∀t'∈q,Nx ((sz:Int)+2) ((sz:Int)+155) (ys.map FB.bs) sq t':=by
  rcases U with rfl|⟨t',rfl,I⟩
  ·simp
  ·intro x M;rw[nx.1 M];exact I
 have ac:ys.length=sz-us:=by rw[f,ji]
 have J: ∀i,i<sz-us→(ys.map FB.bs).getD i []=blk D.dR (2+(hd-1+i) % sz)∧ys.getD i (.raw [])=a ((hd-1+i) % sz):=by
  intro i hi;have e:ys[i]?=some (a ((hd-1+i) % sz)):=by
   rw[f];unfold win;rw[nU,List.getElem?_range hi,←P i];rfl
  refine⟨?_,by rw[mV,e];rfl⟩;rw[mV,nU,e,h1.at' _ (nF _ o)];rfl
 refine⟨st',l,a,q,ys,h1,h2,fun t' B=>(I t' B).g,fun e=>absurd e T,fun _=>⟨r▸s1,r,u,K,I⟩,fun hw=>?_,fun t' B e=>⟨T,fun i hi=>?_⟩⟩
 ·refine V t (ys.drop (qx t).length) A L ?_;have:ys.take (qx t).length=qx t:=by
   apply p8
   ·rw[mW];omega
   ·intro i a1 O;have W:i<sz-us:=zk;have C:=(J i W).2;rw[List.getElem_take];rw[mV,mZ zk] at C;change ys[i]=_ at C;rw[C,w];unfold UU;have N:G ((hd-1+i) % sz)=(qx t)[i]:=by
     rw[H,Nl o O,mV,mZ O];rfl
    rw[mM,N];rw[hw.2 i zk,N,←jQ A.v,mV,nU,mZ O];rfl
  rw[←si (qx t).length ys,this,sj]
 ·have:=(I t' B).at (i:=i) (by rw[e];exact hi);rw[←(J i zk).1,←this,e]
def FB.isR:FB→Bool
 | .inl (_,_)=>true
 |_=>false
def FB.isD:FB→Bool
 | .inr (.inl (_,_))=>true
 |_=>false
def FB.sq:FB→Int
 | .inl (q,_)=>q
 | .inr (.inl (q,_))=>q
 |_=>0
def FB.rL:FB→List Int
 | .inl (_,rs)=>rs
 |_=> []
def FB.dL:FB→List (Int×Bool)
 | .inr (.inl (_,ts))=>ts
 |_=> []
theorem FB.rl {x:FB}(h:x.ok):x.rL.length≤26∧x.dL.length≤17:=by
 cases x using FB.el with
 |rev q rs=>exact⟨h.2.2.2,mX _⟩
 |des q ts=>exact⟨mX _,h.2.2.2⟩
 |com q c m=>exact⟨mX _,mX _⟩
 |raw b=>exact⟨mX _,mX _⟩
theorem eT (w:World){x:FB}(d:x.ok)(h:zC w lo hi .u8 a x.bs):
  Calls Tryz.prog 177 #[a] w fun e w'=> ∃q v,e= .returned (rV3 x.isR q v)∧(x.isR=true→q=x.sq)∧zM w' w.heap.size 2 v x.rL∧zr 0 0 w w':=by
 have k:=(FB.head d).1;have f:x.isR=false→x.rL= []→x.kind≠3→Calls Tryz.prog 177 #[a] w fun e w'=> ∃q v,e= .returned (rV3 x.isR q v)∧(x.isR=true→q=x.sq)∧zM w' w.heap.size 2 v x.rL∧zr 0 0 w w':=fun g i j=>by
  refine(eU w (FB.byt d) h (by rw[k];exact j)).mono ?_;rintro e w' ⟨rfl,c⟩;exact⟨_,_,by rw[g],by rw[g];simp,by rw[i];exact⟨rfl,Or.inl ⟨rfl,rfl⟩⟩,c⟩
 cases x using FB.el with
 |rev q rs=>
  refine(eV w d h).mono ?_;rintro e w' ⟨v,rfl,o,c⟩;exact⟨q,v,rfl,fun _=>rfl,o,c⟩
 |des q ts=>exact f rfl rfl (by simp[FB.kind])
 |com q c m=>exact f rfl rfl (by simp[FB.kind])
 |raw b=>exact f rfl rfl (by simp[FB.kind])
theorem eQ (w:World){x:FB}(d:x.ok)(h:zC w lo hi .u8 a x.bs):
  Calls Tryz.prog 178 #[a] w fun e w'=> ∃q v,e= .returned (rV3 x.isD q v)∧(x.isD=true→q=x.sq)∧je w' w.heap.size v x.dL∧zr 0 0 w w':=by
 have k:=(FB.head d).1;have f:x.isD=false→x.dL= []→x.kind≠2→Calls Tryz.prog 178 #[a] w fun e w'=> ∃q v,e= .returned (rV3 x.isD q v)∧(x.isD=true→q=x.sq)∧je w' w.heap.size v x.dL∧zr 0 0 w w':=fun g i j=>by
  refine(eR w (FB.byt d) h (by rw[k];exact j)).mono ?_;rintro e w' ⟨rfl,c⟩;exact⟨_,_,by rw[g],by rw[g];simp,by rw[i];exact je.nil _ _,c⟩
 cases x using FB.el with
 |des q ts=>
  refine(eS w d h).mono ?_;rintro e w' ⟨v,rfl,o,c⟩;exact⟨q,v,rfl,fun _=>rfl,o,c⟩
 |rev q rs=>exact f rfl rfl (by simp[FB.kind])
 |com q c m=>exact f rfl rfl (by simp[FB.kind])
 |raw b=>exact f rfl rfl (by simp[FB.kind])
def Qh:List FB→Tx→List (Int×Bool)→Tx
 | [],t,_=>t
 |x::xs,t,g::gs=>Qh xs ⟨t.seq,t.homes++ [(g.1,jx x.bs g.2)],t.rV⟩ gs
 |x::xs,t,[]=>if t.homes.length+t.rV.length≤128 then(if x.isR=true then Qh xs ⟨x.sq,t.homes,t.rV++x.rL⟩ [] else if x.isD=true then Qh xs ⟨x.sq,t.homes,t.rV⟩ x.dL else t) else t
theorem iM (cs:List (List Int)): ∀(s:Tx) (ys:List FB),s.homes.length+s.rV.length+cs.flatten.length≤128→Qh (cs.map (FB.rev q)++ys) s []=Qh ys ⟨if cs= [] then s.seq else q,s.homes,s.rV++cs.flatten⟩ []:=by
 induction cs with
 |nil=>intro s ys _;cases s;simp
 |cons c r ih=>
  intro s ys h;rw[oC,mL] at h;rw[nR,oD];show(if s.homes.length+s.rV.length≤128 then _ else s)=_;rw[mM zk];show Qh (r.map (FB.rev q)++ys) ⟨q,s.homes,s.rV++c⟩ []=_;rw[ih _ _ (by simp only[mL];omega)];simp
theorem bW (hs:List Wr)(h: ∀x∈hs,x.2.length=64): ∀(s:Tx) (ys:List FB),Qh (hs.map KZ++ys) s (hs.map z9)=Qh ys ⟨s.seq,s.homes++hs,s.rV⟩ []:=by
 induction hs with
 |nil=>intro s ys;cases s;simp
 |cons x r ih=>
  intro s ys;rw[nR,nR,oD];show Qh (r.map KZ++ys) ⟨s.seq,s.homes++ [((z9 x).1,jx (Zi x.2) (decide (x.2.take 4=mg)))],s.rV⟩ (r.map z9)=_;rw[EP (h x zn),ih (fun y a=>h y (by simp[a]))];simp[z9]
theorem iL (cs:List (List Wr))(h: ∀c∈cs,∀x∈c,x.2.length=64): ∀(s:Tx) (ys:List FB),s.homes.length+s.rV.length+cs.flatten.length≤128→Qh (cs.flatMap (Yp q)++ys) s []=Qh ys ⟨if cs= [] then s.seq else q,s.homes++cs.flatten,s.rV⟩ []:=by
 induction cs with
 |nil=>intro s ys _;cases s;simp
 |cons c r ih=>
  intro s ys a;rw[oC,mL] at a;rw[nX,nk];unfold Yp;rw[oD];show(if s.homes.length+s.rV.length≤128 then _ else s)=_;rw[mM zk];show Qh (c.map KZ++_) ⟨q,s.homes,s.rV⟩ (c.map z9)=_;rw[bW c (h c zn)];have:=ih (fun x b=>h x (by simp[b])) ⟨q,s.homes++c,s.rV⟩ ys (by simp only[mL];omega);unfold Yp at this;rw[this];simp
theorem V5 {t:Tx}(h:qy t)(i: ∀x∈t.homes,Byt x.2):Qh (qx t) ⟨0,[],[]⟩ []=t:=by
 have f:=OkT.of h i;obtain⟨⟨_,d,l⟩,_⟩:=h;unfold qx QT;rw[nk,iM _ _ _ (by rw[Zj 26 zk _ _ nlR];simp only[nH];omega),Zj 26 zk _ _ nlR];rw[iL _ (fun c j x m=>f.data x (Jd j x m)) _ _ (by rw[Zj 17 zk _ _ nlR];simp only[nH,nG];omega),Zj 17 zk _ _ nlR];have k:(if jW 17 t.homes= [] then(if jW 26 t.rV= [] then(0:Int) else t.seq) else t.seq)=t.seq:=by
  by_cases e:jW 17 t.homes= []
  ·by_cases g:jW 26 t.rV= []
   ·have a:=Zj 17 zk _ t.homes nlR;have b:=Zj 26 zk _ t.rV nlR;rw[e] at a;rw[g] at b;rw[←a,←b] at d;simp at d
   ·rw[mM e,mN g]
  ·rw[mN e]
 show Qh [NM t.seq (BL t.seq t.homes t.rV)] ⟨if jW 17 t.homes= [] then(if jW 26 t.rV= [] then(0:Int) else t.seq) else t.seq,[]++t.homes,[]++t.rV⟩ []=t;rw[k];show(if _ then(⟨t.seq,[]++t.homes,[]++t.rV⟩:Tx) else⟨t.seq,[]++t.homes,[]++t.rV⟩)=t;split<;>simp
theorem mj {xs:List FB}(hi:i<xs.length)(t:Tx):(∀g a,Qh (xs.drop i) t (g::a)=Qh (xs.drop (i+1)) ⟨t.seq,t.homes++ [(g.1,jx (xs.getD i (.raw [])).bs g.2)],t.rV⟩ a)∧Qh (xs.drop i) t []=if t.homes.length+t.rV.length≤128 then(if(xs.getD i (.raw [])).isR=true then Qh (xs.drop (i+1)) ⟨(xs.getD i (.raw [])).sq,t.homes,t.rV++(xs.getD i (.raw [])).rL⟩ [] else if(xs.getD i (.raw [])).isD=true then Qh (xs.drop (i+1)) ⟨(xs.getD i (.raw [])).sq,t.homes,t.rV⟩ (xs.getD i (.raw [])).dL else t) else t:=by
 rw[tH hi,mV,mZ hi];exact⟨fun _ _=>rfl,rfl⟩
def Qn (w:World) (base:Nat) (hv rv:Value) (t:Tx):Prop:= ∃es:List Hv,qD w base hv es∧es.map (fun e=>(e.1,e.2.2))=t.homes∧(∀e∈es,e.2.2.length≤64∧Byt e.2.2)∧zM w base 2 rv t.rV∧t.rV.length≤10000∧es.length≤10000
theorem Qn.view {t:Tx}(h:Qn w base hv rv t):qW w base w.heap.size hv t.homes∧zC w base w.heap.size .i64 rv t.rV∧(∀x∈t.homes,Byt x.2)∧Qa t≤1000000:=by
 obtain⟨m,h1,h2,h3,c,n,o⟩:=h;have d:=h1.viewJ (fun e b=>(h3 e b).1);rw[h2] at d;have i: ∀x∈t.homes,x.2.length≤64∧Byt x.2:=fun x a=>by
  rw[←h2] at a;obtain⟨e,b,rfl⟩:=m9.1 a;exact h3 e b
 refine⟨d,c.view zk (fun g k=>(c.lt g k).2),fun x a=>(i x a).2,?_⟩;have j: ∀ps:List Wr,(∀x∈ps,x.2.length≤64∧Byt x.2)→cnt ps≤65*ps.length:=by
  intro ps
  induction ps with
  |nil=>intro _;exact mP _
  |cons p r ih=>
   intro h;have f:=ih (fun q l=>h q (by simp[l]));have s:=(h p zn).1;unfold cnt at*;rw[nR,List.sum_cons,m7];omega
 have f:=j _ i;rw[←h2,mO,h2] at f;unfold Qa;omega
theorem Qn.keep {w':World}{t:Tx}(h:Qn w base hv rv t)(k: ∀(j:Nat) (a:Array Value) (T:TypeId),base≤j→T≠35→w.heap[j]?=some (zi a T)→w'.heap[j]?=some (zi a T)):Qn w' base hv rv t:=by
 obtain⟨d,h1,h2,h3,e,f⟩:=h;exact⟨d,h1.keep (fun j a c b=>k j a _ c zp b) (fun j a c b=>k j a _ c zp b),h2,h3,zR e (fun j a c b=>k j a _ c zp b),f⟩
theorem Qn.low {base':Nat}{t:Tx}(h:Qn w base hv rv t)(a:base'≤base):Qn w base' hv rv t:=by
 obtain⟨b,h1,h2,h3,c,d⟩:=h;exact⟨b,h1.low a,h2,h3,c.lowI a,d⟩
theorem Qn.tx {t:Tx}(h:Qn w base hv rv t)(a: ∀x∈t.homes,x.2.length=64):qB w base hv rv t:=by
 obtain⟨c,h1,h2,h3,d,g,f⟩:=h;exact⟨c,h1,h2,fun e b=>⟨a (e.1,e.2.2) (by rw[←h2];exact m9.2 ⟨e,b,rfl⟩),(h3 e b).2⟩,d,zk,f⟩
structure PsI (w W:World)(t:Tx)(hv rv:Value):Prop where
 c:zr 0 0 w W
 s:w.heap.size+2≤W.heap.size
 z:W.heap[w.heap.size]?=some (zi #[za 0,zc,zc] 35)
 b:W.heap[w.heap.size+1]?=some (zi #[za t.seq,hv,rv] 35)
 o:Qn W (w.heap.size+2) hv rv t
theorem PsI.grow {t:Tx}(h:PsI w W t hv rv)(c:zr 0 0 W W'):PsI w W' t hv rv:=by
 have:=h.s;exact⟨h.c.trans c,nz h.s c.size,c.bt h.z,c.bt h.b,h.o.keep (fun j d T _ _ a=>(c.bk j (zE a)).trans a)⟩
theorem PsI.set {t t':Tx}{hv' rv' x:Value}(h:PsI w W t hv rv)(c:zr (w.heap.size+2) W'.heap.size W W')(f:W'.heap[w.heap.size+1]?=some (zi #[za t.seq,hv,rv] 35))(o:Qn W' (w.heap.size+2) hv' rv' t')
  (e:(#[za t.seq,hv,rv]:Array Value).setIfInBounds i x= #[za t'.seq,hv',rv']):PsI w (W'.setCell ⟨w.heap.size+1,i,none⟩ x) t' hv' rv':=by
 have hs:=h.s;have cs:=c.size;have a:zr (w.heap.size+1) (w.heap.size+2) W' (W'.setCell ⟨w.heap.size+1,i,none⟩ x):=zr.setCell (p:=⟨w.heap.size+1,i,none⟩) (zr.refl _ _ _) (Or.inl ⟨mP _,m5 _⟩) _;refine⟨(h.c.step c).step a,by have:=a.size;omega,a.bt ((c.bk _).trans h.z),(jS f x).trans (by rw[e]),o.keep (fun j d T k g b=>(a.bk j (zE b)).trans b)⟩
theorem PsI.rV {t:Tx}{rv':Value}(h:PsI w W t hv rv)(g:W.grownBy W' rv.ownBlock)(o:zM W' (w.heap.size+2) 2 rv' (t.rV++rs))(u:t.rV.length+rs.length≤10000):
  W'.heap[w.heap.size+1]?=some (zi #[za t.seq,hv,rv] 35)∧PsI w (W'.setCell ⟨w.heap.size+1,2,none⟩ rv') ⟨t.seq,t.homes,t.rV++rs⟩ hv rv':=by
 obtain⟨i,m,n,p,f,v,q⟩:=h.o;have c:=qh.grownE g f;have e:=c _ _ _ zp h.b;have hs:=h.s;have r:=g.size;exact⟨e,h.set (zr.ofGrown g (fun k c l=>⟨(np f k c).1,zk⟩)) e ⟨i,m.keep (fun j a _ d=>c j a _ zp d) (fun j a _ d=>c j a _ zp d),n,p,o,by rw[mL];omega,q⟩ rfl⟩
theorem PsI.home {W1 W2:World}{cp:Nat}{t:Tx}{dv:Value}{es:List Hv}(h:PsI w W t hv rv)(f:qD W (w.heap.size+2) hv es)(i:es.map (fun e=>(e.1,e.2.2))=t.homes)(o: ∀e∈es,e.2.2.length≤64∧Byt e.2.2)(r:zM W (w.heap.size+2) 2 rv t.rV)(B:t.rV.length≤10000∧es.length<10000)(z:zu W1 W.heap.size 5 dv xs)(x:Byt xs∧xs.length≤64)(c:zr 0 0 W W1)
  (D:QQ W2 (w.heap.size+2) (zg g (es.length+1) cp) (es++ [(q,dv,xs)])) (p:(W1.alloc (zi #[za q,dv] 68)).grownBy W2 hv.ownBlock):
  (∀(j:Nat) (a:Array Value) (T:TypeId),T≠68→W.heap[j]?=some (zi a T)→W2.heap[j]?=some (zi a T))∧PsI w (W2.setCell ⟨w.heap.size+1,1,none⟩ (zg g (es.length+1) cp)) ⟨t.seq,t.homes++ [(q,xs)],t.rV⟩ (zg g (es.length+1) cp) rv:=by
 have hs:=h.s;have u:zr 0 0 W1 (W1.alloc (zi #[za q,dv] 68)):=zr.al W1;have n:=c.trans u;have G:=n.size;have v:=(f.row.chg c zk).chg u zk;have m:=qh.grownE p v;have E:=p.size;have d: ∀(j:Nat) (a:Array Value) (T:TypeId),T≠68→W.heap[j]?=some (zi a T)→W2.heap[j]?=some (zi a T):=fun j a T y l=>m j a T y ((n.bk j (zE l)).trans l);refine⟨d,h.set ((n.widen).trans (zr.ofGrown p (fun k m C=>⟨(np v k m).1,zk⟩))) (d _ _ _ zp h.b) ⟨es++ [(q,dv,xs)],qD.more2 f zk z c zk D m,?_,?_,zR r (fun j a F l=>d j a _ zp l),B.1,?_⟩ rfl⟩
 ·rw[m6,i];rfl
 ·intro e A;rcases nu.1 A with r'|r'
  ·exact o e r'
  ·rw[nx.1 r'];exact⟨x.2,x.1⟩
 ·rw[mL,nJ];omega
theorem PsI.fin {t:Tx}(h:PsI w W t hv rv)(a b d:Value):Qn (((W.setCell (zd w.heap.size) a).setCell ⟨w.heap.size,1,none⟩ b).setCell ⟨w.heap.size,2,none⟩ d) w.heap.size hv rv t∧zr 0 0 w (((W.setCell (zd w.heap.size) a).setCell ⟨w.heap.size,1,none⟩ b).setCell ⟨w.heap.size,2,none⟩ d):=by
 have e:zr w.heap.size (w.heap.size+1) W (((W.setCell (zd w.heap.size) a).setCell ⟨w.heap.size,1,none⟩ b).setCell ⟨w.heap.size,2,none⟩ d):=by
  refine zr.setCell (zr.setCell (zr.setCell (zr.refl _ _ _) ?_ _) ?_ _) ?_ _<;>exact Or.inl ⟨mP _,m5 _⟩
 exact⟨(h.o.keep (fun j g T i _ f=>(e.bk j (zE f)).trans f)).low zk,h.c.step e⟩
theorem PsI.sl {t:Tx}(h:PsI w W t hv rv): ∃g i j k,hv=zj g t.homes.length i∧rv=zj j t.rV.length k:=by
 obtain⟨⟨a,c,e,_⟩,⟨b,d,f,_⟩,_⟩:=h.o.view;exact⟨a,c,b,d,e,f⟩
def mC (w w':World) (R:Tx) (e:Ending):Prop:= ∃hv rv,e= .returned (.agg #[za R.seq,hv,rv])∧Qn w' w.heap.size hv rv R∧zr 0 0 w w'
theorem UJ (w:World){xs:List FB}(hx: ∀x∈xs,x.ok)(hl:xs.length≤512)(hv:zC w lo hi .u8 (zg g (64*xs.length) cap) (xs.map FB.bs).flatten):
  Calls Tryz.prog 158 #[zg g (64*xs.length) cap] w fun e w'=>mC w w' (Qh xs ⟨0,[],[]⟩ []) e:=by
 have aN: ∀b∈xs.map FB.bs,b.length=64:=fun b hb=>by obtain⟨x,h,rfl⟩:=m9.1 hb;exact FB.len (hx x h)
 have ag:(xs.map FB.bs).flatten.length=64*xs.length:=by rw[Jz aN,mO]
 have HX:Hid (∀i,i<xs.length→(xs.getD i (.raw [])).ok):=fun i hi=>hx _ (by rw[mV,mZ hi];exact nj hi);obtain⟨N,hN⟩: ∃N,N=xs.length:=⟨_,rfl⟩;have aA:Hid (∀(W:World) (i:Nat),zr 0 0 w W→i<N→Calls Tryz.prog 42 #[zg g (64*N) cap,za i] W fun e w'=> ∃v,e= .returned v∧zu w' W.heap.size 5 v (xs.getD i (.raw [])).bs∧zr 0 0 W w'):=fun W i hc hi=>by
  have:=Qf W (k:=i) (cap:=cap) (by rw[ag];exact hv.chg hc zk) (by rw[ag];omega) (by rw[ag];omega);rw[ag,Ec aN (by rw[mO,←hN];exact hi),←hN,mV,nU,mZ zk] at this;rw[mV,mZ zk];exact this
 have aD:Hid (∀i,i<N→ ∀t:Tx,_):=fun i hi t=>mj (xs:=xs) (i:=i) zk t;have aw:Hid (∀t gs,Qh (xs.drop N) t gs=t):=fun t gs=>by rw[oZ zk];rfl
 rw[←hN] at HX hl⊢;obtain⟨R,B⟩: ∃R,R=Qh xs ⟨0,[],[]⟩ []:=⟨_,rfl⟩;have aY:Hid _:=B.symm;rw[←B];have r:Hid (PsI w ((w.alloc (zi #[za 0,zc,zc] 35)).alloc (zi #[za 0,zc,zc] 35)) ⟨0,[],[]⟩ (zc) (zc)):=by
  obtain⟨z1,z2,z3⟩:=zU w (zi #[za 0,zc,zc] 35) (zi #[za 0,zc,zc] 35);exact⟨(zr.al w).alloc _,zk,z2,z3,[],qD.zero _ _,rfl,zn,⟨rfl,Or.inl ⟨rfl,rfl⟩⟩,zn,zn⟩
 have hq:((64*N:Nat):Int)/64=(N:Int):=zk;clear hv hx aN ag hN B;generalize ba:64*N=LL at*;have ba:Hid (64*N=LL):=ba;go_enter Tryz.func158,Tryz.ntmps158;go_wp2;generalize (w.alloc (zi #[za 0,zc,zc] 35)).alloc (zi #[za 0,zc,zc] 35)=w0 at*;clear hq;go_loopw [5] (fun s5 wr=> ∃(i:Nat) (t:Tx) (hv rv:Value),s5=za i∧i≤N∧Qh (xs.drop i) t []=R∧(t.homes.length≤160∧t.rV.length≤160)∧PsI w wr t hv rv) (fun s5 _=>N-(intOf s5).toNat)
 case atStart=>exact⟨0,_,_,_,rfl,mX _,aY,⟨zn,zn⟩,r⟩
 case round=>
  obtain⟨i,t,hv,rv,rfl,hi,B,bF,hI⟩:=hrel;clear r aY;obtain⟨ha,hc,ra,rc,rfl,rfl⟩:=hI.sl;obtain⟨S,f⟩: ∃S,Hid (S=t.homes.length):=⟨_,rfl⟩;obtain⟨O,n⟩: ∃O,Hid (O=t.rV.length):=⟨_,rfl⟩;have P:Hid _:=B;rw[←f.out,←n.out] at hI bF;have r:Hid _:=hI;obtain⟨⟨b0,b1,b2⟩,f0,f1,f2⟩:=tri hI.b;clear hI B;have ww:IntKind.i64.wrap ((S:Int)+(O:Int))=(S:Int)+(O:Int):=by rw[mS];omega
  by_cases ah:i<N
  case neg=>
   obtain rfl:i=N:=zk;have bm: ¬(i:Int)<(i:Int):=zk;have bQ:=mY bm;obtain⟨⟨z1,z2,z3⟩,f4,f5,f6⟩:=tri r.z;have HF:Hid _:=r.fin;have HE:Hid (t=R):=by show _=_;rw[←P.out,aw.out]
   clear r P;go_wp2;exact mT (v:= .agg #[za t.seq,zj ha S hc,zj ra O rc]) (by simp[results,Tryz.results158,go_sem, *]) rfl ⟨_,_,by rw[HE.out],HE.out▸ (HF.out _ _ _).1,(HF.out _ _ _).2⟩
  have bJ:(i:Int)<(N:Int):=zk;by_cases ax:S+O≤128
  case neg=>
   have bm: ¬((S:Int)+(O:Int)≤128):=zk;obtain⟨⟨z1,z2,z3⟩,f4,f5,f6⟩:=tri r.z;have HF:Hid _:=r.fin;have HE:Hid (t=R):=by show _=_;rw[←P.out,(aD.out i ah t).2,mN (by rw[←f.out,←n.out];exact ax)]
   clear r P;go_wp2;exact mT (v:= .agg #[za t.seq,zj ha S hc,zj ra O rc]) (by simp[results,Tryz.results158,go_sem, *]) rfl ⟨_,_,by rw[HE.out],HE.out▸ (HF.out _ _ _).1,(HF.out _ _ _).2⟩
  have bI:(S:Int)+(O:Int)≤128:=zk;have E:=HX.out i ah;obtain⟨bo,bg⟩:=FB.rl E;have hP:=aD.out i ah;have aF:=P.out;rw[(hP t).2,mM (by rw[←f.out,←n.out];exact ax)] at aF;have HR2:Hid _:=aF;have Z:=aA.out wr i r.c ah;clear aF P hP;obtain⟨x,hx⟩: ∃x,Hid (x=xs.getD i (.raw [])):=⟨_,rfl⟩;rw[←hx.out] at E bo bg HR2 Z;go_wp2_with fail;clear b0 b1 b2 f0 f1 f2 bJ bI ww;refine Z.mono ?_;rintro e w1 ⟨v1,rfl,M,Q⟩
  have a9:=r.grow Q;have hd:=eT w1 E (M.seen (by rw[FB.len E];omega));obtain⟨e1,l1,bR,rfl⟩:=zF M;have aB:Hid _:=a9;clear Z M Q r a9;go_wp2_with fail;refine hd.mono ?_;rintro e w2 ⟨rq,b6,rfl,av,F,c2⟩;obtain⟨u,A,rfl⟩:=F.sl';obtain⟨U,l⟩: ∃U,Hid (U=x.rL.length):=⟨_,rfl⟩;rw[←l.out] at F bo⊢;have a2:Hid _:=zt w2 (zi #[.bool x.isR,za rq,zj u U A] 277);have C3:zr 0 0 w2 (w2.alloc (zi #[.bool x.isR,za rq,zj u U A] 277)):=zr.al w2
  have aC:Hid _:=(aB.grow c2).grow C3;have aW:Hid (zM _ w1.heap.size 2 (zj u U A) x.rL):=zM.chg F C3 (fun _ _=>zk);have s1:=aB.s;have s2:=c2.size;have s3:w2.heap.size<(w2.alloc (zi #[.bool x.isR,za rq,zj u U A] 277)).heap.size:=zn;have az:=aA.out _ i aC.c ah;rw[←hx.out] at az;clear hd F c2 C3 aB;go_wp2_with fail;generalize w2.alloc (zi #[.bool x.isR,za rq,zj u U A] 277)=w3 at*;generalize w2.heap.size=RB at*
  refine az.mono ?_;rintro e w4 ⟨v4,rfl,o4,c4⟩;have hd:=eQ w4 E (o4.seen (by rw[FB.len E];omega));obtain⟨e4,l4,bS,rfl⟩:=zF o4;have aU:Hid _:=aC.grow c4;have a3:Hid _:=(c4.bk _ s3).trans a2;have aX:Hid (zM _ w1.heap.size 2 (zj u U A) x.rL):=zM.chg aW c4 (fun _ _=>zk);have s4:=c4.size;clear az o4 c4 aC a2 aW;go_wp2_with fail;refine hd.mono ?_;rintro e w5 ⟨dq,bT,rfl,ar,o5,c5⟩;obtain⟨da,dc,rfl⟩:=o5.slG
  obtain⟨dl,C⟩: ∃dl,Hid (dl=x.dL.length):=⟨_,rfl⟩;rw[←C.out] at o5 bg⊢;have ab:Hid _:=zt w5 (zi #[.bool x.isD,za dq,zj da dl dc] 280);have C6:zr 0 0 w5 (w5.alloc (zi #[.bool x.isD,za dq,zj da dl dc] 280)):=zr.al w5;have s5:=c5.size;have d:Hid _:=(aU.grow c5).grow C6;have ac:Hid _:=((c5.trans C6).bk _).trans a3;have an:Hid (zM _ w1.heap.size 2 (zj u U A) x.rL):=zM.chg aX (c5.trans C6) (fun _ _=>zk)
  have aa:Hid (je _ w4.heap.size (zj da dl dc) x.dL):=je.chg o5 C6 (fun _ _=>zk);have s6:w5.heap.size<(w5.alloc (zi #[.bool x.isD,za dq,zj da dl dc] 280)).heap.size:=zn;clear hd o5 c5 C6 aU a3 aX;have b3:IntKind.i64.wrap ((i:Int)+1)=((i+1:Nat):Int):=by rw[mS];omega
  go_upto_region 8 with fail;generalize w5.alloc (zi #[.bool x.isD,za dq,zj da dl dc] 280)=w6 at*;generalize w5.heap.size=DB at*;obtain⟨⟨p0,p1,p2⟩,-⟩:=tri ac;obtain⟨⟨d0,d1,d2⟩,-⟩:=tri ab;obtain⟨⟨b0,b1,b2⟩,f0,f1,f2⟩:=tri d.b
  cases B:x.isR with
  |true=>
   rw[B,mM rfl,←av B] at HR2;rw[B] at p0;have bp:0<U:=by
    cases x using FB.el with
    |rev q rs=>rw[l.out];exact E.2.2.1
    |des q ts=>cases B
    |com q c m=>cases B
    |raw b=>cases B
   clear av ar B;have ae:=d.set (i:=0) (x:=za rq) (t':=⟨rq,t.homes,t.rV⟩) (zr.refl _ _ w6) d.b d.o rfl;have c7:zr (w.heap.size+1) (w.heap.size+2) w6 (w6.setCell (zd (w.heap.size+1)) (za rq)):=zr.setCell (p:=(zd (w.heap.size+1))) (zr.refl _ _ _) (Or.inl ⟨mP _,m5 _⟩) _;have bx:Hid (zC _ w1.heap.size w6.heap.size .i64 (zj u U A) x.rL):=(an.seen (by rw[←l.out];omega)).chg c7 zk;have a4:Hid _:=(c7.bk RB).trans ac
   have D:Hid _:=ae;clear ae c7 d an ac ab aa d0 d1 d2;go_upto_region 10 with fail;generalize w6.setCell (zd (w.heap.size+1)) (za rq)=w7 at*;clear b0 b1 b2 f0 f1 f2 p0 p1 p2;obtain⟨⟨p0,p1,p2⟩,-⟩:=tri a4;obtain⟨⟨b0,b1,b2⟩,f0,f1,f2⟩:=tri D.b;obtain⟨es,M,F,o3,o4,o5,o6⟩:=D.o;have bz:Hid _:=o4;have aK:Hid (t.rV.length≤128):=by show _≤_;rw[←n.out];omega
   have bZ:=D.s;clear M F o3 o4 o5 o6 a4;go_wp2_with (refine oV rfl fun K hK=>?_;refine ZX (.tmp 44) (.tmp 47) rfl (w.heap.size+2) (zj ra O rc) t.rV rfl bz.out zk w1.heap.size w6.heap.size (zj u U A) x.rL rfl bx.out (by rw[←l.out];exact bp) (by have:=aK.out;rw[←l.out];omega) ?_;intro v8 w8 o8 g8;obtain⟨a8,c8,rfl⟩:=o8.sl';obtain⟨L,hF⟩:=D.out.rV g8 o8 (by have:=aK.out;show t.rV.length+_≤_;rw[←l.out];omega);have HF:Hid _:=hF;obtain⟨⟨x0,x1,x2⟩,y0,y1,y2⟩:=tri L;clear o8 g8 hF L;generalize (t.rV++x.rL).length=L8 at*;refine hK _ _ ?_)
   go_roundw
   case rel=>exact⟨i+1,_,_,_,rfl,zk,HR2.out,⟨by show t.homes.length≤160;rw[←f.out];omega,by have:=aK.out;show(t.rV++x.rL).length≤160;rw[mL,←l.out];omega⟩,HF.out⟩
   case measure=>simp[intOf];omega
  |false=>
   rw[B,mN zn] at HR2;rw[B] at p0
   cases hD:x.isD with
   |false=>
    rw[hD,mN zn] at HR2;rw[hD] at d0;obtain⟨⟨z1,z2,z3⟩,f4,f5,f6⟩:=tri d.z;have HF:Hid _:=d.fin;clear d an ac ab aa av ar;go_wp2;exact mT (v:= .agg #[za t.seq,zj ha S hc,zj ra O rc]) (by simp[results,Tryz.results158,go_sem, *]) rfl ⟨_,_,by rw[←HR2.out],HR2.out▸ (HF.out _ _ _).1,(HF.out _ _ _).2⟩
   |true=>
    rw[hD,mM rfl,←ar hD] at HR2;rw[hD] at d0;have ae:=d.set (i:=0) (x:=za dq) (t':=⟨dq,t.homes,t.rV⟩) (zr.refl _ _ w6) d.b d.o rfl;have c7:zr (w.heap.size+1) (w.heap.size+2) w6 (w6.setCell (zd (w.heap.size+1)) (za dq)):=zr.setCell (p:=(zd (w.heap.size+1))) (zr.refl _ _ _) (Or.inl ⟨mP _,m5 _⟩) _;have aS:Hid (je _ w4.heap.size (zj da dl dc) x.dL):=je.chg aa c7 (fun g hg=>by have:=(aa.lt g hg).1;omega)
    have aJ:Hid _:=(c7.bk DB).trans ab;have D:Hid _:=ae;have aH:Hid (t.homes.length≤128∧t.rV.length≤128):=by show _≤_∧_≤_;rw[←f.out,←n.out];omega
    rw[hD] at aJ;clear ae c7 d an ac ab aa av ar B hD;go_wp2;generalize w6.setCell (zd (w.heap.size+1)) (za dq)=w7 at*;clear b0 b1 b2 f0 f1 f2 p0 p1 p2 d0 d1 d2;go_loopw [5,8] (fun s5 s8 wr=> ∃(i' k:Nat) (t':Tx) (hv rv:Value),(s5=za i'∧s8=za k)∧(i<i'∧i'≤N∧k≤dl)∧Qh (xs.drop i') t' (x.dL.drop k)=R∧(t'.homes.length≤128+k∧t'.rV.length≤128)∧PsI w wr t' hv rv∧wr.heap[DB]?=some (zi #[.bool true,za dq,zj da dl dc] 280)∧je wr w4.heap.size (zj da dl dc) x.dL) (fun _ s8 _=>dl-(intOf s8).toNat)
    case atStart=>exact⟨i+1,0,_,_,_,⟨rfl,rfl⟩,⟨zk,zk,mX _⟩,HR2.out,⟨by have:=aH.out;simpa using this.1,aH.out.2⟩,D.out,aJ.out,aS.out⟩
    case round=>
     obtain⟨i',k,t',hv,rv,⟨rfl,rfl⟩,⟨bX,bh,hk⟩,bb,bd,hI,aO,a7⟩:=hrel;clear D aJ aS HR2 aH f n;obtain⟨ap,aq,bq,br,rfl,rfl⟩:=hI.sl;obtain⟨ai,f⟩: ∃S,Hid (S=t'.homes.length):=⟨_,rfl⟩;obtain⟨bu,n⟩: ∃O,Hid (O=t'.rV.length):=⟨_,rfl⟩;have P:Hid _:=bb;rw[←f.out,←n.out] at hI bd;have r:Hid _:=hI;have HD:Hid _:=aO;have HG:Hid (je wr w4.heap.size (zj da dl dc) x.dL):=a7;obtain⟨⟨b0,b1,b2⟩,f0,f1,f2⟩:=tri hI.b;obtain⟨⟨d0,d1,d2⟩,-⟩:=tri aO
     clear hI bb aO a7;by_cases bi:k<dl
     case neg=>
      obtain rfl:k=dl:=zk;have bY: ¬(k:Int)<(k:Int):=zk;have aE:Hid (Qh (xs.drop i') t' []=R):=by show _=_;rw[←P.out,show x.dL.drop k= [] from oZ (by rw[←C.out];exact mP _)]
      clear b0 b1 b2 f0 f1 f2;go_wp2;go_roundw
      case rel=>exact⟨i',t',_,_,rfl,bh,aE,⟨by rw[←f.out];omega,by rw[←n.out];omega⟩,r⟩
      case measure=>simp[intOf];omega
     have bj:(k:Int)<(dl:Int):=zk;by_cases aP:i'<N
     case neg=>
      obtain rfl:i'=N:=zk;have bn:(i':Int)≥ (i':Int):=zk;obtain⟨⟨z1,z2,z3⟩,f4,f5,f6⟩:=tri r.z;have HF:Hid _:=r.fin;have HE:Hid (t'=R):=by show _=_;rw[←P.out,aw.out]
      clear r P HD HG;go_wp2;exact mT (v:= .agg #[za t'.seq,zj ap ai aq,zj bq bu br]) (by simp[results,Tryz.results158,go_sem, *]) rfl ⟨_,_,by rw[HE.out],HE.out▸ (HF.out _ _ _).1,(HF.out _ _ _).2⟩
     have bn: ¬(i':Int)≥ (N:Int):=zk;obtain⟨gd,bO,e,bV,bW,be⟩:=HG.cells (by rw[←C.out];omega);simp only[ns] at e;obtain⟨rfl,-,-⟩:=e;obtain⟨c0,Q⟩:=be k (by rw[←C.out];exact bi);rw[ni] at c0 Q;obtain⟨V,G,ak⟩: ∃a b,x.dL.getD k (0,false)=(a,b):=⟨_,_,rfl⟩;have aE:Hid (Qh (xs.drop (i'+1)) ⟨t'.seq,t'.homes++ [(V,jx (xs.getD i' (.raw [])).bs G)],t'.rV⟩ (x.dL.drop (k+1))=R):=by
      show _=_;have bl:k<x.dL.length:=by rw[←C.out];exact bi
      have e:=P.out;rw[tH bl,(aD.out i' aP t').1] at e;rw[mV,mZ bl] at ak;change x.dL[k]=_ at ak;rw[ak] at e;exact e
     rw[ak] at c0 Q;have Z:=fun W hc=>aA.out W i' hc aP;have aj:=HX.out i' aP;clear be ak P;generalize xs.getD i' (.raw [])=y at*;go_upto_region 20 with fail;clear b0 b1 b2 f0 f1 f2 d0 d1 d2 c0 Q bn bj;have C9:zr 0 0 wr (wr.alloc (zi #[za V,.bool G] 174)).drew:=zr.drew (zr.al wr);have H:Hid _:=r.grow C9;have bM:=r.s;have HS:Hid ((wr.alloc (zi #[za V,.bool G] 174)).drew.heap[w.heap.size+1]?=_∧(wr.alloc (zi #[za V,.bool G] 174)).drew.heap[wr.heap.size]?=_):=⟨H.b,zt wr (zi #[za V,.bool G] 174)⟩
     have bE:=(zE HD);have aR:Hid _:=(C9.bk _ bE).trans HD;have aT:Hid (je _ w4.heap.size (zg gd dl dc) x.dL):=je.chg HG C9 (fun _ _=>zk);have s9:wr.heap.size<(wr.alloc (zi #[za V,.bool G] 174)).drew.heap.size:=by show _<(wr.alloc _).heap.size;simp
     have bU:=bM;clear C9 r HD HG;go_wp2;refine wRg 14 (fun w':World=>w'.heap[w.heap.size+1]?=some (zi #[za t'.seq,zj ap ai aq,zj bq bu br] 35)∧w'.heap[wr.heap.size]?=some (zi #[za V,.bool G] 174)) ?_;generalize (wr.alloc (zi #[za V,.bool G] 174)).drew=X at*;generalize wr.heap.size=GB at*;refine wT2 0 (.pointer (some ⟨w.heap.size+1,1,none⟩)) rfl ?_;go_simp;refine wTk 1 (zj ap ai aq) rfl (fun w' am=>by obtain⟨⟨h3,h4,h5⟩,-⟩:=tri am.1;go_simp) HS.out ?_
     go_simp;refine wT2 2 (zh GB) rfl ?_;go_simp;refine wTk 3 (za V) rfl (fun w' am=>by obtain⟨h4,h5,-,-⟩:=zw am.2;go_simp) HS.out ?_;go_simp;refine wT2 4 (zg g LL cap) rfl ?_;go_simp;refine wT2 5 (za (i':Int)) rfl ?_;go_simp;refine wT2 7 (.pointer (some ⟨GB,1,none⟩)) rfl ?_;go_simp;refine wTk 8 (.bool G) rfl (fun w' am=>by obtain⟨h4,h5,-,-⟩:=zw am.2;go_simp) HS.out ?_;go_simp;refine wOn 6 rfl ?_;refine zv 42 #[zg g LL cap,za (i':Int)] zq (Z X H.out.c) ?_
     rintro e X1 ⟨v1,rfl,M,Q⟩;have b7:=Q.size;have ao:Hid (_∧_):=⟨Q.bt HS.1,(Q.bk _ s9).trans HS.2⟩;have ay:=FB.len aj;have hU:=Yg X1 G (FB.byt aj) (M.seen zk) nlR;have bc:Byt (jx y.bs G)∧(jx y.bs G).length≤64:=by
      unfold jx;split
      ·refine⟨Eh (FB.byt aj) _,?_⟩;unfold jA;split
       ·rw[mL,m8,ay];decide
       ·omega
      ·exact⟨fun _ h=>by simp at h,zn⟩
     obtain⟨bA,bN,a5,rfl⟩:=zF M;have a0:Hid _:=Q;have aZ:Hid _:=bc;clear M Q ay bc;refine⟨_,rfl,fun _=>ao.out,?_⟩;generalize jx y.bs G=ud at*;go_simp;refine wOn 9 rfl ?_;refine zv 179 #[zj bA bN a5,.bool G] zq hU ?_;rintro e X2 ⟨v2,rfl,F,c2⟩;have b8:=c2.size;have I:Hid (_∧_):=⟨c2.bt ao.1,c2.bt ao.2⟩;have aV:Hid (zu X2 X.heap.size 5 v2 ud):=F.base (fun g hg=>by have:=(F.lt g hg).1;omega);have aI:Hid _:=a0.trans c2
     obtain⟨aM,aQ,ad,rfl⟩:=zF F;clear F c2 a0 ao hU;refine⟨_,rfl,fun _=>I.out,?_⟩;go_simp;refine wOn 10 rfl ?_;have bK:=I.1;have bL:=I.2;go_simp;clear bK bL;refine wOn 11 rfl ?_;obtain⟨ic,bH,bf,af,bP⟩:=na Tryz.infoH;refine oe 32 68 1 #[(0,.tmp 86)] rfl #[za V,zj aM aQ ad] ic _ Tryz.underlying32 bH bf (by rw[af];decide) (by rw[af];decide) (by rw[af,oh];refine QJ 2 _ ?_ [za V,zj aM aQ ad] rfl;simp) ?_
     have c7:zr 0 0 X2 (X2.alloc (zi #[za V,zj aM aQ ad] 68)):=zr.al X2;refine⟨fun _=>⟨c7.bt I.1,c7.bt I.2⟩,?_⟩;go_simp;refine wOn 12 rfl ?_;obtain⟨es,M,F,o3,o4,o5,o6⟩:=H.o;have a1:Hid (es.length=ai):=by show _=_;rw[f.out,←F,mO]
     have b9:=H.s;refine Xw ud (.tmp 77) (.tmp 87) rfl (w.heap.size+2) (zj ap ai aq) es rfl (M.row.chg aI zk) zk rfl (by have:=a1.out;omega) ⟨_,_,_,rfl⟩ ?_;intro g8 aL X8 o8 a6;obtain⟨au,hF⟩:=H.home M F o3 o4 ⟨o5,by have:=a1.out;omega⟩ aV aZ aI o8 a6;have L:=au _ _ _ zp HS.1;have aG:Hid (_∧_):=⟨L,au _ _ _ zp HS.2⟩;have cY:zr (w.heap.size+1) (w.heap.size+2) X8 (X8.setCell ⟨w.heap.size+1,1,none⟩ (zg g8 (es.length+1) aL)):=(zr.refl _ _ X8).setCell (p:=⟨w.heap.size+1,1,none⟩) (Or.inl ⟨mP _,m5 _⟩) _
     have kY: ∀(j:Nat) (J:Array Value) (T:TypeId),T≠68→T≠35→X.heap[j]?=some (zi J T)→(X8.setCell ⟨w.heap.size+1,1,none⟩ (zg g8 (es.length+1) aL)).heap[j]?=some (zi J T):=fun j J T hT hT2 hh=>by
      have h8:=au j J T hT hh;refine(cY.block j (zE h8) ?_).trans h8;have:j≠w.heap.size+1:=fun e=>by rw[e,L] at h8;cases h8;exact hT2 rfl
      omega
     have HF:Hid _:=hF;have bv:Hid _:=kY _ _ _ zp zp aR;have bw:Hid (je _ w4.heap.size (zg gd dl dc) x.dL):=zR aT (fun j J _ hh=>kY j J _ zp zp hh);obtain⟨⟨u0,u1,u2⟩,bB,bC,bD⟩:=tri L;have bG:=aG.2;refine⟨fun _=>aG.out,?_⟩;clear au hF a6 o8 c7 cY kY M F o3 o4 o5 o6 HS H aR aT aV aZ aI;go_simp;refine wOn 13 rfl ?_;go_simp;refine wOn 14 rfl ?_;go_simp;refine wDn ?_;clear u0 u1 u2 bB bC bD bG aG I;have b4:IntKind.i64.wrap ((i':Int)+1)=((i'+1:Nat):Int):=by rw[mS];omega
     have b5:IntKind.i64.wrap ((k:Int)+1)=((k+1:Nat):Int):=by rw[mS];omega
     generalize X8.setCell ⟨w.heap.size+1,1,none⟩ (zg g8 (es.length+1) aL)=Y at*;go_wp2;go_roundw
     case rel=>exact⟨i'+1,k+1,_,_,_,⟨rfl,rfl⟩,⟨zk,zk,zk⟩,aE.out,⟨by show(t'.homes++ [_]).length≤_;rw[mL,←f.out,nJ];omega,by show t'.rV.length≤128;rw[←n.out];omega⟩,HF.out,bv.out,bw.out⟩
     case measure=>simp[intOf];omega
theorem NZ {cs:List (List Int)}(c: ∀b∈cs,b.length=64)(d: ∀b∈bs,b.length=64)(h:cs.flatten=bs.flatten):cs=bs:=by
 induction cs generalizing bs with
 |nil=>
  cases bs with
  |nil=>rfl
  |cons b r=>
   have:=nI List.length h;rw[oC,mL,d b zn] at this;simp at this;omega
 |cons a cs ih=>
  cases bs with
  |nil=>
   have:=nI List.length h;rw[oC,mL,c a zn] at this;simp at this
  |cons b r=>
   rw[oC,oC] at h;obtain⟨f,g⟩:=List.append_inj h (by rw[c a zn,d b zn]);rw[f,ih (fun x e=>c x (by simp[e])) (fun x e=>d x (by simp[e])) g]
theorem mq {t:Tx}(h: ∀x∈t.homes,Byt x.2): ∀b∈TL t,b.length=64∧Byt b:=fun b a=>by
 by_cases c:qy t
 ·rw[←jQ c] at a
  obtain⟨x,d,rfl⟩:=m9.1 a
  exact⟨FB.len (QE c h x d),FB.byt (QE c h x d)⟩
 ·unfold TL at a
  rw[qg c] at a
  simp at a
abbrev rV5 (g:Bool) (q:Int) (hv rv:Value):Value:= .agg #[.bool g,za q,hv,rv]
def mp (w w':World) (xs:List FB) (e:Ending):Prop:=(((∃t hv rv,e= .returned (rV5 true t.seq hv rv)∧qy t∧TL t=xs.map FB.bs∧qB w' w.heap.size hv rv t)∨e= .returned (rV5 false 0 (zc) (zc))∧ ∀t,qy t→(∀x∈t.homes,Byt x.2)→TL t≠xs.map FB.bs)∧zr 0 0 w w')
theorem EC (w:World){xs:List FB}(P: ∀x∈xs,x.ok)(hl:xs.length≤512)(u:zC w lo hi .u8 (zg g (64*xs.length) cap) (xs.map FB.bs).flatten){R:Tx}(hR:Qh xs ⟨0,[],[]⟩ []=R):
  Calls Tryz.prog 133 #[zg g (64*xs.length) cap] w fun e w'=>((∃u rv,e= .returned (rV5 true R.seq u rv)∧qy R∧TL R=xs.map FB.bs∧qB w' w.heap.size u rv R)∨(e= .returned (rV5 false 0 (zc) (zc))∧ ¬(qy R∧TL R=xs.map FB.bs)))∧zr 0 0 w w':=by
 have t: ∀b∈xs.map FB.bs,b.length=64:=fun b n=>by obtain⟨x,h,rfl⟩:=m9.1 n;exact FB.len (P x h)
 have K:Byt (xs.map FB.bs).flatten:=fun z y=>by
  obtain⟨b,n,y⟩:=List.mem_flatten.1 y;obtain⟨x,h,rfl⟩:=m9.1 n;exact FB.byt (P x h) z y
 have S:zr 0 0 w (w.alloc (zi #[.bool false,za 0,zc,zc] 223)):=zr.al w;have hP:=UJ _ P hl (u.chg S zk);rw[hR] at hP;have HV:Hid (zC w lo hi .u8 _ _):=u;have HB:Hid _:=zt w (zi #[.bool false,za 0,zc,zc] 223);have hs:w.heap.size<(w.alloc (zi #[.bool false,za 0,zc,zc] 223)).heap.size:=zn;have HC:Hid _:=S;have U:Hid _:=t;have V:Hid _:=K;have m1:((64*xs.length:Nat):Int) % 64=0:=zk;have m2: ¬((64*xs.length:Nat):Int)>32768:=zk
 have m3: ¬(32768:Int)<((64*xs.length:Nat):Int):=zk;have ae:Hid ((xs.map FB.bs).flatten.length=64*xs.length):=by show _=_;rw[Jz t,mO]
 generalize 64*xs.length=LL at*;clear u P hR S t K;generalize xs.map FB.bs=bs at*;go_enter Tryz.func133,Tryz.ntmps133;go_wp2_with fail;generalize w.alloc (zi #[.bool false,za 0,zc,zc] 223)=wA at*;refine hP.mono ?_;rintro e o ⟨u,rv,rfl,Q,O⟩;obtain⟨⟨ha,hc,rfl,-⟩,⟨ra,rc,rfl,-⟩,hyb,hcn⟩:=Q.view;obtain⟨i,ab⟩: ∃i,Hid (i=R.homes.length):=⟨_,rfl⟩;obtain⟨k,ad⟩: ∃k,Hid (k=R.rV.length):=⟨_,rfl⟩;rw[←ab.out,←ad.out] at Q⊢
 have N:Hid (∀W,zr 0 0 o W→Qn W wA.heap.size (zj ha i hc) (zj ra k rc) R):=fun W c=>Q.keep (fun j aa T _ _ M=>(c.bk j (zE M)).trans M);have Y:Hid (∀W,zr 0 0 o W→jy W wA.heap.size W.heap.size (.agg #[za R.seq,zj ha i hc,zj ra k rc]) R):=fun W c=>⟨_,_,rfl,(N W c).view.1,(N W c).view.2.1⟩;have D:zr 0 0 o (o.alloc (zi #[za R.seq,zj ha i hc,zj ra k rc] 35)):=zr.al o;have Z:Hid _:=zt o (zi #[za R.seq,zj ha i hc,zj ra k rc] 35)
 have hV:=ZJ _ zk (Y _ D);have s1:=O.size;have E:Hid _:=((O.trans D).bk _ hs).trans HB;have G:Hid _:=HC.trans (O.trans D);have H:Hid _:=D;have m:Hid _:=hyb;have s2:o.heap.size<(o.alloc (zi #[za R.seq,zj ha i hc,zj ra k rc] 35)).heap.size:=zn;clear hP Q O D HB HC hyb;obtain⟨⟨t0,t1,t2⟩,-⟩:=tri Z;go_wp2_with fail;clear t0 t1 t2;generalize o.alloc (zi #[za R.seq,zj ha i hc,zj ra k rc] 35)=w2 at*;refine hV.mono ?_
 rintro e w3 ⟨rfl,A⟩;have s3:=A.size;have p:Hid _:=A.bt E;have r:Hid _:=(A.bk _ s2).trans Z;have l:Hid _:=G.trans A;have f:Hid _:=H.trans A;clear hV A E Z G H;by_cases a:qy R
 case neg=>
  rw[qg a];obtain⟨⟨z1,z2,z3,z4⟩,f1,f2,f3,f4⟩:=qO p;have HF:Hid _:=J1 l;have HN:Hid _:=a;clear a;go_wp2;exact mT (v:=rV5 false 0 (zc) (zc)) (by simp[results,Tryz.results133,go_sem,rV5, *]) rfl ⟨Or.inr ⟨rfl,fun h=>HN.out h.1⟩,HF.out _ _ _ _⟩
 rw[qu a];have J:=qq w3 zk nlR m (Y w3 f);obtain⟨⟨t0,t1,t2⟩,-⟩:=tri r;have Hval:Hid _:=a;clear a;go_wp2_with fail;clear t0 t1 t2;refine J.mono ?_;rintro e C ⟨tg,tc,rfl,o4,s⟩;have s4:=s.size;have d:=mq m;have L:Byt (TL R).flatten:=fun z y=>by
  obtain⟨b,n,y⟩:=List.mem_flatten.1 y;exact(d b n).2 z y
 have hS:=j5 C L V (o4.seen (by rw[Jz (fun b n=>(d b n).1)];have:=(Ze m).1;omega)) (HV.chg (l.trans s) zk);have HE:Hid ((TL R).flatten=bs.flatten↔TL R=bs):=⟨NZ (fun b n=>(d b n).1) U,fun h=>by rw[h]⟩;have F:Hid _:=s.bt p;have I:Hid _:=s.bt r;have X:Hid _:=l.trans s;have q:Hid (Qn C wA.heap.size (zj ha i hc) (zj ra k rc) R):=N.out C (f.trans s);clear J o4 s d L p r l N Y f;generalize (TL R).length=tl at*
 go_wp2_with fail;refine hS.mono ?_;rintro e w5 ⟨rfl,af⟩;subst w5;clear hS;obtain⟨⟨z1,z2,z3,z4⟩,f1,f2,f3,f4⟩:=qO F;obtain⟨⟨t0,t1,t2⟩,-⟩:=tri I;have HF:Hid _:=J1 X;by_cases B:TL R=bs
 case neg=>
  rw[mY (fun h=>B (HE.out.1 h))];have HN:Hid _:=B;clear B q;go_wp2;exact mT (v:=rV5 false 0 (zc) (zc)) (by simp[results,Tryz.results133,go_sem,rV5, *]) rfl ⟨Or.inr ⟨rfl,fun h=>HN.out h.2⟩,HF.out _ _ _ _⟩
 rw[mR (HE.out.2 B)];have Hee:Hid _:=B;have HOf:Hid (∀u0 u1 u2 u3:Value,qB ((((C.setCell (zd w.heap.size) u0).setCell ⟨w.heap.size,1,none⟩ u1).setCell ⟨w.heap.size,2,none⟩ u2).setCell ⟨w.heap.size,3,none⟩ u3) w.heap.size (zj ha i hc) (zj ra k rc) R):=fun u0 u1 u2 u3=>by
  have cc:zr w.heap.size (w.heap.size+1) C ((((C.setCell (zd w.heap.size) u0).setCell ⟨w.heap.size,1,none⟩ u1).setCell ⟨w.heap.size,2,none⟩ u2).setCell ⟨w.heap.size,3,none⟩ u3):=by
   refine zr.setCell (zr.setCell (zr.setCell (zr.setCell (zr.refl _ _ _) ?_ _) ?_ _) ?_ _) ?_ _<;>exact Or.inl ⟨mP _,m5 _⟩
  have ac:=OkT.of Hval m;exact((Qn.keep q (fun j aa T hj _ M=>(cc.bk j (zE M)).trans M)).low zk).tx ac.data
 clear B q F I;go_wp2;exact mT (v:=rV5 true R.seq (zj ha i hc) (zj ra k rc)) (by simp[results,Tryz.results133,go_sem,rV5, *]) rfl ⟨Or.inl ⟨_,_,rfl,Hval.out,Hee.out,HOf.out _ _ _ _⟩,HF.out _ _ _ _⟩
theorem YI (w:World){xs:List FB}(q: ∀x∈xs,x.ok)(p:xs.length≤512)(n:zC w lo hi .u8 (zg g (64*xs.length) cap) (xs.map FB.bs).flatten):
  Calls Tryz.prog 133 #[zg g (64*xs.length) cap] w fun e w'=>mp w w' xs e:=by
 by_cases o: ∃t,qy t∧(∀x∈t.homes,Byt x.2)∧TL t=xs.map FB.bs
 ·obtain⟨t,h1,h2,h3⟩:=o;have l:=jQ h1;have d:(qx t).length=xs.length:=by rw[←mO (f:=FB.bs),l,h3,mO]
  have:=EC w (xs:=qx t) (cap:=cap) (g:=g) (lo:=lo) (hi:=hi) (QE h1 h2) zk (by rw[d,l,h3];exact n) (V5 h1 h2);rw[d] at this;refine this.mono ?_;rintro e w' ⟨h|⟨-,h⟩,c⟩
  ·obtain⟨a,b,i,j,m,k⟩:=h;exact⟨Or.inl ⟨t,a,b,i,j,by rw[h3],k⟩,c⟩
  ·exact absurd ⟨h1,l.symm⟩ h
 ·refine(EC w q p n rfl).mono ?_;rintro e w' ⟨h|⟨h,-⟩,c⟩
  ·obtain⟨a,b,i,j,m,k⟩:=h;exact⟨Or.inl ⟨_,a,b,i,j,m,k⟩,c⟩
  ·exact⟨Or.inr ⟨h,fun t h1 h2 h3=>o ⟨t,h1,h2,h3⟩⟩,c⟩
def gy (D:List Int) (sz:Nat) (F:Nat→FB):Prop:= ∀j,j<sz→(F j).ok∧Vu D (2+j)=(F j).bs∧64*(2+j)+64≤D.length
theorem Ux (F:Nat→FB)(sz p k:Nat):win F sz p (k+1)=win F sz p k++ [F ((p+k) % sz)]:=by rw[Xv];rfl
theorem dj {F:Nat→FB}(h:gy D sz F)(hs:0<sz)(p k:Nat): ∀x∈win F sz p k,x.ok:=fun x a=>by
 obtain⟨i,hi,rfl⟩:=Vp hs a
 exact(h i hi).1
theorem kD {F:Nat→FB}(h:gy D sz F)(hs:0<sz)(p k:Nat): ∀b∈(win F sz p k).map FB.bs,b.length=64:=fun b a=>by
 obtain⟨x,c,rfl⟩:=m9.1 a
 exact FB.len (dj h hs p k x c)
theorem Y9 (sz p k:Nat):qi (sz:Int) ((p+1:Nat):Int) (k:Int)=(((p+k) % sz+1:Nat):Int):=by
 unfold qi;rw[show((p+1:Nat):Int)-1+(k:Int)=((p+k:Nat):Int) by omega];rfl
theorem bO (w:World){p pl pc:Nat}{pa:Option Addr}{F:Nat→FB}(hv:zC w lo hi .u8 (zg g D.length cap) D)(hD:D.length≤1048576)(af:16≤sz∧sz≤512)(hp:p<sz)(hn:n≤sz)(f:gy D sz F):
  Calls Tryz.prog 134 #[.agg #[zg g D.length cap,zj pa pl pc],za sz,za ((p+1:Nat):Int),za n] w fun e w'=> ∃g' c',e= .returned (zg g' (64*n) c')∧zu w' w.heap.size 5 (zg g' (64*n) c') ((win F sz p n).map FB.bs).flatten∧zr 0 0 w w':=by
 have N:Hid (∀(W:World) (i:Nat),zr 0 0 w W→Calls Tryz.prog 42 #[zg g D.length cap,za ((1+((p+i) % sz+1):Nat):Int)] W fun e w'=> ∃v,e= .returned v∧zu w' W.heap.size 5 v (F ((p+i) % sz)).bs∧zr 0 0 W w'):=fun W i K=>by
  have hm:=nF (p+i) (show 0<sz by omega);obtain⟨h1,h2,h3⟩:=f _ hm;have:=Qf W (k:=2+(p+i) % sz) (hv.chg K zk) h3 hD;rw[h2] at this;rw[show 1+((p+i) % sz+1)=2+(p+i) % sz by omega];exact this
 have A:Hid (∀(W:World) (i:Nat),i≤512→Calls Tryz.prog 41 #[za sz,za ((p+1:Nat):Int),za i] W fun e w'=>e= .returned (za (((p+i) % sz+1:Nat):Int))∧w'=W):=fun W i hi=>by
  have:=ZB W (sz:Int) ((p+1:Nat):Int) (i:Int);rw[Y9] at this;exact this
 have s:Hid (∀k,((win F sz p k).map FB.bs).flatten.length=64*k∧(F ((p+k) % sz)).bs.length=64):=fun k=>⟨by rw[Jz (kD f zk p k),mO,ji],FB.len (f _ (nF _ zk)).1⟩;have T:Hid (∀k,((win F sz p (k+1)).map FB.bs).flatten=((win F sz p k).map FB.bs).flatten++(F ((p+k) % sz)).bs):=fun k=>by rw[Ux];simp
 obtain⟨M,J⟩: ∃M:Nat,M=p+1:=⟨_,rfl⟩;rw[←J] at A⊢;clear f hv J hp;generalize D.length=DL at*;have s0:=zU w (zi #[zg g DL cap,zj pa pl pc] 26) (zi #[] 5);have y:Hid (zu ((w.alloc (zi #[zg g DL cap,zj pa pl pc] 26)).alloc (zi #[] 5)) (w.heap.size+1) 5 (zg (w.heap.size+1) 0 0) ((win F sz p 0).map FB.bs).flatten):=by
  have:=nK (base:=w.heap.size+1) (e:=5) (size:=1) (w.alloc (zi #[zg g DL cap,zj pa pl pc] 26)) #[] 0 zn (by unfold maxLen;omega) rfl;show World.ownsRow _ _ _ _ _ _ _;simpa [win] using this
 have t:Hid (zr 0 0 w ((w.alloc (zi #[zg g DL cap,zj pa pl pc] 26)).alloc (zi #[] 5))):=(zr.al w).alloc _;have r:Hid _:=s0;clear s0;go_enter Tryz.func134,Tryz.ntmps134;go_wp2;generalize (w.alloc (zi #[zg g DL cap,zj pa pl pc] 26)).alloc (zi #[] 5)=w0 at*;go_loopw [9,10] (fun s9 s10 wr=> ∃(k g' c':Nat),(s10=za k∧s9=zg g' (64*k) c')∧k≤n∧zu wr (w.heap.size+1) 5 (zg g' (64*k) c') ((win F sz p k).map FB.bs).flatten∧zr 0 0 w wr∧w.heap.size+1≤wr.heap.size∧wr.heap[w.heap.size]?=some (zi #[zg g DL cap,zj pa pl pc] 26)) (fun _ s10 _=>n-(intOf s10).toNat)
 case atStart=>exact⟨0,_,_,⟨rfl,rfl⟩,mX _,y,t,by have:=r.1;omega,r.2.1⟩
 case round=>
  obtain⟨k,g',c',⟨rfl,rfl⟩,hk,ho,K,hs,V⟩:=hrel;clear y t r;have x:Hid (zu wr (w.heap.size+1) 5 (zg g' (64*k) c') ((win F sz p k).map FB.bs).flatten):=ho;have O:Hid _:=K;clear ho K;by_cases I:k<n
  case neg=>
   obtain rfl:k=n:=zk;have ad: ¬(k:Int)<(k:Int):=zk;have HF:Hid (zu wr w.heap.size 5 (zg g' (64*k) c') ((win F sz p k).map FB.bs).flatten):=zu.base x (fun g hg=>by have:=(x.lt g hg).1;omega);clear x V;generalize a:64*k=C at*;have a:Hid (64*k=C):=a;go_wp2;go_ret;exact⟨g',c',rfl,HF,O⟩
  have aa:(k:Int)<(n:Int):=zk;have HS:Hid (wr.drew.heap[w.heap.size]?=some (zi #[zg g DL cap,zj pa pl pc] 26)):=V;have j:Hid _:=O.drew;have z:Hid (zu wr.drew (w.heap.size+1) 5 (zg g' (64*k) c') ((win F sz p k).map FB.bs).flatten):=x.chg (zr.drew (zr.refl 0 0 wr)) (fun _ _=>zk);have sd:w.heap.size+1≤wr.drew.heap.size:=hs;obtain⟨q,hq⟩: ∃q:Nat,Hid (q=(p+k) % sz+1):=⟨_,rfl⟩;have ae:q≤512:=by have:=nF (p+k) (show 0<sz by omega);rw[hq.out];omega
  have HP:=fun W=>A.out W k zk;have HB:=fun W h=>N.out W k h;rw[←hq.out] at HP HB;have ah:IntKind.i64.wrap (1+(q:Int))=((1+q:Nat):Int):=by rw[mS];omega
  have hL:=s.out k;have hS:=T.out k;have Q:Hid _:=hL;have S:Hid _:=hS;clear x O V hL hS;generalize (F ((p+k) % sz)).bs=ys at*;generalize a:64*k=C at*;have a:Hid (64*k=C):=a;go_wp2;refine hRg (fun w':World=>w'.heap[w.heap.size]?=some (zi #[zg g DL cap,zj pa pl pc] 26)) ?_;generalize wr.drew=X at*;refine hT2 0 ((zg g' C c')) rfl ?_;go_simp;refine hT2 1 (zh w.heap.size) rfl ?_;go_simp;refine hTk 2 (zg g DL cap) rfl (fun w' Y=>by obtain⟨h4,h5,-,-⟩:=zw Y;go_simp) HS.out ?_
  go_simp;refine hT2 3 (za sz) rfl ?_;go_simp;refine hT2 4 (za M) rfl ?_;go_simp;refine hT2 5 (za k) rfl ?_;go_simp;refine hOn 6 rfl ?_;refine zv 41 #[za sz,za M,za k] zq (HP X) ?_;rintro e X' ⟨rfl,hX⟩;subst X';refine⟨_,rfl,HS,?_⟩;go_simp;refine hT2 7 (za ((1+q:Nat):Int)) rfl ?_;go_simp;refine hOn 8 rfl ?_;refine zv 42 #[zg g DL cap,za ((1+q:Nat):Int)] zq (HB X j.out) ?_;rintro e U ⟨v1,rfl,Z,E⟩;have s1:=E.size
  have m:Hid _:=E.bt HS;have l:Hid (zu U (w.heap.size+1) 5 (zg g' C c') ((win F sz p k).map FB.bs).flatten):=zu.chg z E (fun _ _=>zk);have B:Hid (zC U X.heap.size U.heap.size .u8 v1 ys):=Z.seen (by have:=Q.2;omega);have u:Hid _:=j.trans E;obtain⟨e1,l1,ab,rfl⟩:=zF Z;clear Z E HS z j;refine⟨_,rfl,m,?_⟩;go_simp;refine hOn 9 rfl ?_;refine YQ (.tmp 17) (.tmp 25) rfl (w.heap.size+1) _ ((win F sz p k).map FB.bs).flatten rfl l zk _ _ _ ys rfl B (by have:=Q.2;omega) (by have:=Q.out;omega) ?_
  intro v2 X2 L g2;rw[←S.out] at L;have b:=zr.ofGrown g2 (fun k hk I=>⟨(l.lt k hk).1,I⟩);have s2:=b.size;have o:Hid _:=b.bt m;have P:Hid _:=u.step b;obtain⟨H,G,rfl⟩: ∃g c,v2=zg g (64*(k+1)) c:=by
   have hl:=(s (k+1)).1;rcases L.2 with⟨_,e⟩|⟨g,c,ac,rfl,_⟩
   ·omega
   ·exact⟨g,c,by rw[hl]⟩
  have R:Hid (zu X2 (w.heap.size+1) 5 (zg H (64*(k+1)) G) ((win F sz p (k+1)).map FB.bs).flatten):=L;clear L g2 b l B u m;refine⟨o,?_⟩;generalize d:64*(k+1)=L2 at*;have d:Hid (64*(k+1)=L2):=d;go_simp;refine hOn 10 rfl ?_;go_simp;refine⟨o,hDn ?_⟩;have ag:IntKind.i64.wrap ((k:Int)+1)=((k+1:Nat):Int):=by rw[mS];omega
  go_wp2;go_roundw
  case rel=>exact⟨k+1,H,G,⟨rfl,by rw[d.out]⟩,zk,by rw[d.out];exact R,P,zk,o⟩
  case measure=>simp[intOf];omega
theorem dH {α:Type}{xs ys:List α}{d:α}(a:xs.length=ys.length)(h: ∀i,i<xs.length→xs.getD i d=ys.getD i d):xs=ys:=by
 apply p8 a;intro i h1 h2;have:=h i h1;simpa [h1,h2] using this
theorem FB.inj {x y:FB}(u:x.ok)(v:y.ok)(h:x.bs=y.bs):x=y:=by
 have g:x.kind=y.kind:=by rw[←(FB.head u).1,←(FB.head v).1,h]
 cases x using FB.el with
 |rev q rs=>
  cases y using FB.el with
  |rev q' rs'=>
   obtain⟨j,l,n⟩:=Ub u;obtain⟨p,r,s⟩:=Ub v;rw[h] at j l n;have A:rs.length=rs'.length:=by rw[j] at p;omega
   rw[show q=q' from l.symm.trans r,show rs=rs' from dH (d:=0) A (fun i hi=>(n i hi).symm.trans (s i zk))]
  |des q' ts=>cases g
  |com q' c m=>cases g
  |raw b=>cases g
 |des q ts=>
  cases y using FB.el with
  |des q' ts'=>
   obtain⟨j,l,n⟩:=VB u;obtain⟨p,r,s⟩:=VB v;rw[h] at j l n;have A:ts.length=ts'.length:=by rw[j] at p;omega
   rw[show q=q' from l.symm.trans r,show ts=ts' from dH (d:=(0,false)) A (fun i hi=>?_)];obtain⟨B,C⟩:=n i hi;obtain⟨w,z⟩:=s i zk;rw[B] at w;rw[C] at z;generalize ts.getD i (0,false)=a at*;generalize ts'.getD i (0,false)=b at*;obtain⟨a,e⟩:=a;obtain⟨b,f⟩:=b;simp only at w z;rw[w]
   cases e<;>cases f<;>simp at z⊢
  |rev q' ts=>cases g
  |com q' c m=>cases g
  |raw b=>cases g
 |com q c m=>
  cases y using FB.el with
  |com q' c' m'=>
   have o: ∀ {q c m:Int},(FB.com q c m).ok→qI (((FB.com q c m).bs.drop 6).take 2)=c∧qI (((FB.com q c m).bs.drop 8).take 4)=q∧qI (((FB.com q c m).bs.drop 12).take 4)=m:=fun{q c m} ⟨hq,hc,hs⟩=>by
    have t:=pn4 hs.1 hs.2;obtain⟨D,E,F⟩:=Xt (k:=4) (c:=c) (q:=q) (Y:=zx m 4) (pn2 zk zk) (pn4 zk hq.2);refine⟨D,E,?_⟩;show qI (((qk (zD 4 c q++zx m 4)).drop 12).take 4)=m;rw[F,oG zk,ny zk];exact jc _ _ zk (fun e=>by rw[e] at t;simp at t)
   obtain⟨j,l,n⟩:=o u;obtain⟨p,r,s⟩:=o v;rw[h] at j l n;rw[show q=q' from l.symm.trans r,show c=c' from j.symm.trans p,show m=m' from n.symm.trans s]
  |rev q' rs=>cases g
  |des q' ts=>cases g
  |raw b=>cases g
 |raw b=>
  cases y using FB.el with
  |raw b'=>exact nI FB.raw h
  |rev q' rs=>cases g
  |des q' ts=>cases g
  |com q' c m=>cases g
theorem k8: ∀ {xs ys:List FB},(∀x∈xs,x.ok)→(∀y∈ys,y.ok)→xs.map FB.bs=ys.map FB.bs→xs=ys:=by
 intro xs
 induction xs with
 |nil=>intro ys _ _ h;cases ys with|nil=>rfl|cons y r=>cases h
 |cons x r ih=>
  intro ys b c h
  cases ys with
  |nil=>cases h
  |cons y s=>
   rw[nR,nR,pF] at h;rw[FB.inj (b x zn) (c y zn) h.1,ih (fun z a=>b z (by simp[a])) (fun z a=>c z (by simp[a])) h.2]
theorem eh {t:Tx}{xs:List FB}(a:qy t)(b: ∀x∈t.homes,Byt x.2)(c: ∀x∈xs,x.ok)(h:TL t=xs.map FB.bs):xs=qx t:=k8 c (QE a b) (by rw[jQ a,h])
theorem lP {t t':Tx}(h1:qy t)(h2: ∀x∈t.homes,Byt x.2)(h3:qy t')(a: ∀x∈t'.homes,Byt x.2)(h:TL t=TL t'):t=t':=by
 have:=eh h1 h2 (QE h3 a) (by rw[jQ h3];exact h);rw[←V5 h1 h2,←V5 h3 a,this]
theorem gC {t:Tx}(h:qy t):2≤(TL t).length:=by
 obtain⟨⟨_,a,b⟩,_⟩:=id h;have:=bl (q:=t.seq) (hs:=t.homes) (rs:=t.rV);unfold TL;rw[mM (qu h),mL,nJ];omega
theorem kI {t:Tx}{xs:List FB}{x:FB}(d:qy t)(c: ∀x∈t.homes,Byt x.2)(g: ∀y∈xs++ [x],y.ok)(h:TL t=(xs++ [x]).map FB.bs): ∃s,x= .com t.seq (xs.length:Int) s:=by
 have e:=eh d c g h;unfold qx at e;obtain⟨b,a⟩:=List.append_inj' e rfl;rw[pF] at a;refine⟨Zy (BL t.seq t.homes t.rV).flatten,a.1.trans ?_⟩;unfold NM;rw[b,←mO (f:=FB.bs),NJ]
end Go.Proofs.YthdeofoleiiibaaGreatDoor
