import Derived.Test.YthdeofoleiiibaaGreatDoorHead
import Derived.Test.YthdeofoleiiibaaGreatDoorHeld
import Derived.Lib.Bytes
import Derived.Stop.BytesEq
import Derived.Laws.BytesArg
namespace Go.Proofs.YthdeofoleiiibaaGreatDoor
open Go.RowKit
set_option maxRecDepth 100000
set_option maxHeartbeats 16000000
variable {xs ys:List Int}{w x:World}{lo hi b n B cap lo':Nat}{a vL vM vK:Value}{T tL tM tK:TypeId}{cs cur:List Value}{o:Oper}{Q:Exit→Act→World→Prop}{hd:Obj}
def mg:List Int:= [106,108,111,103]
theorem EY:Byt mg:=by intro x a;simp[mg] at a;omega
abbrev nd:= @run_loadVar_mid
structure Za (w:World)(tL tM tK:TypeId)(vL vM vK:Value):Prop where
 eL:w.cell? (zd 4)=some (.iface tL vL)
 eM:w.cell? (zd 5)=some (.iface tM vM)
 eK:w.cell? (zd 1)=some (.iface tK vK)
 m0:w.cell? (zd 0)=some (zb 106)
 m1:w.cell? ⟨0,1,none⟩=some (zb 108)
 m2:w.cell? ⟨0,2,none⟩=some (zb 111)
 m3:w.cell? ⟨0,3,none⟩=some (zb 103)
theorem Za.chg {w':World}(h:Za w tL tM tK vL vM vK)(c:zr lo hi w w')(a:hi≤lo∨8≤lo):Za w' tL tM tK vL vM vK:=
 ⟨c.cell h.eL,c.cell h.eM,c.cell h.eK,c.cell h.m0,c.cell h.m1,c.cell h.m2,c.cell h.m3⟩
def gF (w:World) (lo:Nat) (ev:Value) (t:TypeId) (v:Value):Prop:= ∃b k,lo≤b∧ev= .iface 244 (zh b)∧Vl w b k (.iface t v)
theorem Qr {P:Program}{fn:Func}{p1 p2 p3:Tmp}{t1 t2:TypeId}{tmps:Array Value}{a1 a2:Addr}{v1 v2 v3:Value}(h:fn.results= #[.cell p1 t1,.cell p2 t2,.tmp p3])(h1:tmps.getD p1 undef= .pointer (some a1))(h2:tmps.getD p2 undef= .pointer (some a2))(h3:tmps.getD p3 undef=v3)
  (d:(loadVar t1 a1).run P w= .ok v1 w) (e:(loadVar t2 a2).run P w= .ok v2 w):(results fn tmps).run P w= .ok (.tuple #[v1,v2,v3]) w:=by
 have a:tmps[p1]?.getD undef= .pointer (some a1):=by simpa using h1
 have b:tmps[p2]?.getD undef= .pointer (some a2):=by simpa using h2
 have c:tmps[p3]?.getD undef=v3:=by simpa using h3
 simp only[results,h];simp[asAddr,a,b,c,d,e]
abbrev z7:List Value:= [zb 0,zb 0,zb 0,zb 0,za 0,za 0,za 0]
theorem Vc (w:World)(h1:zC w lo hi .u8 a xs)(u:Za w tL tM tK vL vM vK)(C:xs.length≠64):
  Calls Tryz.prog 167 #[a] w fun e w'=> ∃t,e= .returned (.tuple #[.agg Z64.toArray,.agg z7.toArray,t])∧gF w' w.heap.size t tL vL∧zr 0 0 w w':=by
 obtain⟨F,cap,rfl,H,_,_⟩:=h1;have B:((xs.length:Int) !=64)=true:=by simp;omega
 clear C;go_enter Tryz.func167,Tryz.ntmps167;go_upto_region 1 with fail;simp only[qd];obtain⟨E,x,y⟩:=zU w (zi Z64.toArray 78) (zi z7.toArray 146);have l:zr 0 0 w ((w.alloc (zi Z64.toArray 78)).alloc (zi z7.toArray 146)):=(zr.al w).alloc _;generalize (w.alloc (zi Z64.toArray 78)).alloc (zi z7.toArray 146)=D at*;have G:=(u.chg l zk).eL;clear u;go_wp2_with fail;simp only[qd];refine(QZ _ 0 tL vL).mono ?_
 rintro e h ⟨rfl,f,g⟩;have I:=g.size;have q:=(g.bk w.heap.size).trans x;have r:=(g.bk (w.heap.size+1)).trans y;have j:Hid (h.heap[w.heap.size]?=some (zi Z64.toArray 78)):=q;have k:Hid (h.heap[w.heap.size+1]?=some (zi z7.toArray 146)):=r;have z:Hid (zr 0 0 w h):=l.trans g;have A:Hid (Vl h D.heap.size 0 (.iface tL vL)):=f;clear g l f x y q r;have b:(Tryz.prog.info? 78).map (·.size)=some Z64.length:=by rw[zN];kernel_rfl
 go_wp2_with (first
  |(refine wpList_store_row rfl 78 (.tmp 2) (.tmp 10) rfl rfl w.heap.size rfl Z64 Z64 78 rfl j rfl b dy ?_;intro L m c)
  |(refine wpList_store_row rfl 146 (.tmp 3) (.tmp 11) rfl rfl (w.heap.size+1) rfl z7 z7 146 rfl ((c.bk (w.heap.size+1)).trans k) rfl zl (by simp[Value.oneCell']) ?_;intro i n d))
 have J:=c.size;have K:=d.size;have o:(loadVar 78 (zd w.heap.size)).run Tryz.prog i= .ok (.agg Z64.toArray) i:=nd _ _ _ _ Z64 _ (zy ((d.bk w.heap.size).trans m)) Tryz.underlying78 rfl b;have p:(loadVar 146 (zd (w.heap.size+1))).run Tryz.prog i= .ok (.agg z7.toArray) i:=nd _ _ _ _ z7 _ (zy n) Tryz.underlying146 rfl zl;have s:zr w.heap.size (w.heap.size+2) h i:=(c.widen).trans (d.widen);refine mT (v:= .tuple #[.agg Z64.toArray,.agg z7.toArray,.iface 244 (zh (w.heap.size+2))]) (Qr Tryz.results167 rfl rfl rfl o p) rfl ⟨_,rfl,⟨w.heap.size+2,0,zk,rfl,?_⟩,z.step s⟩
 have f:=A.out;rw[E] at f;exact(s.bk _ (zE f)).trans f
abbrev pF:= @List.cons.injEq
theorem d9 (c:Byt xs)(d:Byt ys)(h1:(xs.map fun n=>UInt8.ofNat n.toNat)=ys.map fun n=>UInt8.ofNat n.toNat):xs=ys:=by
 induction xs generalizing ys with
 |nil=>cases ys with
  |nil=>rfl
  |cons y r=>simp at h1
 |cons x r ih=>
  cases ys with
  |nil=>simp at h1
  |cons y s=>
   simp only[nR,pF] at h1;have f:=c x zn;have g:=d y zn;have e:x=y:=by
    have:=congrArg UInt8.toNat h1.1;simp only[UInt8.toNat_ofNat'] at this;omega
   rw[e,ih (fun a b=>c a (by simp[b])) (fun a b=>d a (by simp[b])) h1.2]
theorem d7 (a:Byt xs)(b:Byt ys):((strOfNums xs).toList==(strOfNums ys).toList)=decide (xs=ys):=by
 rw[Go.Lib.strOfNums_toList,Go.Lib.strOfNums_toList];by_cases h:xs=ys
 ·subst h;rw[mR rfl];exact beq_self_eq_true _
 ·rw[mY h,beq_eq_false_iff_ne];exact fun e=>h (d9 a b e)
abbrev pz:= @List.map_congr_left
theorem Ed (h:Byt xs):(xs.map fun n=>UInt8.ofNat n.toNat).map Extern.Stop.cell=xs.map (Value.int .u8):=by
 rw[oR];refine pz fun x a=>?_;have:=h x a;have e:((UInt8.ofNat x.toNat).toNat:Int)=x:=by rw[UInt8.toNat_ofNat'];omega
 show Value.int .u8 ((UInt8.ofNat x.toNat).toNat:Int)=_;rw[e]
theorem jG (w:World)(t:TypeId)(n:Nat)(f:Tryz.prog.underlying t=some (.array n 5))(a:Byt xs)(b:Byt ys)(g:xs.length=n)(i:ys.length=n):
  (Op.equalIn 10000 t (.agg (xs.map (Value.int .u8)).toArray) (.agg (ys.map (Value.int .u8)).toArray)).run Tryz.prog w= .ok (decide (xs=ys)) w:=by
 have h:=run_equalIn_bytes (P:=Tryz.prog) w 9998 t 5 n f Tryz.underlying5 (fun w=>zl) (xs.map fun n=>UInt8.ofNat n.toNat) (ys.map fun n=>UInt8.ofNat n.toNat) (by simpa using g) (by simpa using i);rw[Ed a,Ed b] at h;have d:((xs.map fun n=>UInt8.ofNat n.toNat)==ys.map fun n=>UInt8.ofNat n.toNat)=decide (xs=ys):=by
  by_cases e:xs=ys
  ·subst e;rw[mR rfl];exact beq_self_eq_true _
  ·rw[mY e,beq_eq_false_iff_ne];exact fun c=>e (d9 a b c)
 rw[h,d]
abbrev nN:= @wpList_load_mid
theorem bp (w:World)(a:Addr)(cap:Nat):(Instr.arrayAt 78 (zj (some a) 64 cap)).run Tryz.prog w= .ok (.pointer (some a)) w:=by
 simp[Instr.arrayAt,run_underlying Tryz.underlying78]
def dp (xs:List Int) (w':World) (lo:Nat) (tM tK:TypeId) (vM vK:Value) (ev:Value):Prop:=
 (xs.take 4≠mg∧gF w' lo ev tM vM)∨(xs.take 4=mg∧ ¬(1≤xs.getD 4 0∧xs.getD 4 0≤4)∧gF w' lo ev tK vK)∨(xs.take 4=mg∧(1≤xs.getD 4 0∧xs.getD 4 0≤4)∧ev= .nilIface)
theorem Xe (w:World)(h1:zC w lo hi .u8 a xs)(hB:Byt xs)(hG:Za w tL tM tK vL vM vK)(hx:xs.length=64):
  Calls Tryz.prog 167 #[a] w fun e w'=> ∃ev,e= .returned (.tuple #[.agg (xs.map (Value.int .u8)).toArray,.agg (hd7 xs),ev])∧zr 0 0 w w'∧dp xs w' w.heap.size tM tK vM vK ev:=by
 obtain⟨ao,cap,rfl,hl,⟨ay,_⟩,Q⟩:=h1;obtain⟨xb,xo,rfl,aD⟩: ∃xb xo,ao=some ⟨xb,xo,none⟩∧ ∀i,i<xs.length→w.cell? ⟨xb,xo+i,none⟩=some (zb (xs.getD i 0)):=by
  rcases Q with e|⟨x,o,e,_,_,h⟩
  ·rw[e] at hx;simp at hx
  ·exact⟨x,o,e,h⟩
 obtain⟨cs,I⟩: ∃cs,cs=xs.map (Value.int .u8):=⟨_,rfl⟩;have L1:cs.length=64:=by rw[I];simpa using hx
 have L2: ∀v∈cs,v.oneCell'=true:=by rw[I];exact ints_oneCell _ _
 have R0:w.rangeAt xb xo cs:=by
  intro j v hj;have aa:j<xs.length:=by have:=(nD.1 hj).1;omega
  rw[aD j aa,←hj,I,nU];simp only[mV];rw[mZ aa];rfl
 have U:Hid _:=L1;have V:Hid _:=L2;have aG:Hid _:=I;have Hx:Hid _:=hx;have HB:Hid (Byt xs):=hB;have p:(Tryz.prog.info? 78).map (·.size)=some cs.length:=by rw[L1];kernel_rfl
 have aE:=Tryz.underlying78;have aJ:((64:Int) !=64)=false:=zn;rw[←I,hx];rw[hx] at ay;obtain⟨z1,z2,z3⟩:=zU w (zi Z64.toArray 78) (zi z7.toArray 146);have hA:zr 0 0 w ((w.alloc (zi Z64.toArray 78)).alloc (zi z7.toArray 146)):=(zr.al w).alloc _;have aI:5<w.heap.size∧1<w.heap.size:=⟨zV hG.eM,zV hG.eK⟩;clear Q aD L1 L2 I hx hB;go_enter Tryz.func167,Tryz.ntmps167;go_upto_region 1 with fail;simp only[qd]
 have aH:=fun w'=>bp w' ⟨xb,xo,none⟩ cap;generalize (w.alloc (zi Z64.toArray 78)).alloc (zi z7.toArray 146)=wa at*;have HG:Hid _:=hG.chg hA zk;have HR:Hid (wa.rangeAt xb xo cs):=fun j v hj=>hA.cell (R0 j v hj);have au:Hid _:=z2;have av:Hid _:=z3;have HA:Hid _:=hA;clear z2 z3 hA R0 hG;go_upto_region 4 with(first
  |(refine nN rfl 78 (.tmp 15) rfl xb xo rfl cs _ HR aE rfl p ?_)
  |(refine wpList_store_row rfl 78 (.tmp 5) (.tmp 16) rfl rfl (w.heap.size+2) rfl cs Z64 78 rfl (by rw[←z1,←qd];exact zt _ _) (by rw[zN];exact U) p V ?_;intro w2 W aw))
 have c2:zr 0 0 wa w2:=(zr.al wa).step aw;have s2:=c2.size;have aK:=(zE W);have hN:=QL w2 xs Hx HB;rw[←aG.out] at hN;have an:Hid _:=zy W;have ak:Hid _:=c2;have ap:Hid _:=W;obtain⟨h0,h1,h2,h3,f,l,m,e7,x4⟩: ∃h0 h1 h2 h3 f l m:Int,hd7 xs= #[zb h0,zb h1,zb h2,zb h3,za f,za l,za m]∧xs.take 4= [h0,h1,h2,h3]∧xs.getD 4 0=f:=by
  refine⟨_,_,_,_,_,_,_,rfl,?_,rfl⟩;have:=Hx.out
  match xs,this with
  |a::b::c::d::r,_=>simp
 obtain⟨aC,x4⟩:=x4;have ag:Hid _:=e7;have aq:Hid _:=aC;have ar:Hid _:=x4;rw[e7] at hN;clear W aw c2 e7 aC x4 HR aH;go_upto_region 5 with(first
  |(refine nN rfl 78 (.tmp 5) rfl (w.heap.size+2) 0 rfl cs _ an aE rfl p ?_)
  |(refine hN.mono ?_;rintro e q ⟨rfl,ai⟩)
  |(refine wpList_store_row rfl 146 (.tmp 6) (.tmp 18) rfl rfl q.heap.size rfl [zb h0,zb h1,zb h2,zb h3,za f,za l,za m] z7 146 rfl (zt _ _) rfl zl (by simp[Value.oneCell']) ?_;intro w4 H ax))
 have s3:=ai.size;have s4:=(zE H);have C4:zr 0 0 w2 w4:=(ai.trans (zr.al q)).step ax;have ab:Hid _:=ak.trans C4;have af:Hid _:=H;have am:Hid _:=(C4.bk (w.heap.size+2)).trans ap;have ad:Hid _:=HG.chg ab zk;clear H ax ai C4 ak ap an hN HG;go_cut [22] (fun s22 wx=>s22= .bool (!decide (xs.take 4=mg))∧zr 0 0 w4 wx)
 case first=>
  have HS:Hid (_∧_):=⟨af,ad.chg (zr.drew (zr.refl 0 0 w4)) zk⟩;refine hRg (fun w':World=>w'.heap[q.heap.size]?=some (zi (List.toArray [zb h0,zb h1,zb h2,zb h3,za f,za l,za m]) 146)∧Za w' tL tM tK vL vM vK) ?_;refine zI 0 (.agg (List.toArray [zb h0,zb h1,zb h2,zb h3,za f,za l,za m])) rfl zl zl zl (fun _ _ _ h=>h) (nl zl 146 (.tmp 6) rfl q.heap.size 0 rfl [zb h0,zb h1,zb h2,zb h3,za f,za l,za m] _ (fun w' g=>zy g.1) Tryz.underlying146 rfl zl) HS ?_
  go_simp;refine hTk 2 (.agg #[zb 106,zb 108,zb 111,zb 103]) rfl (fun w' g=>by have m0:=g.2.m0;have m1:=g.2.m1;have m2:=g.2.m2;have m3:=g.2.m3;go_simp) HS.out ?_;go_simp;refine hOn 1 rfl ?_;refine zv 162 #[.agg (List.toArray [zb h0,zb h1,zb h2,zb h3,za f,za l,za m])] zq (Xd w4.drew h0 h1 h2 h3 f l m) ?_;rintro e u ⟨rfl,X⟩;have HS5:Hid (_∧_):=⟨(X.bk q.heap.size (zE HS.1)).trans HS.1,HS.2.chg X zk⟩;have J:Hid _:=(zr.drew (zr.refl 0 0 w4)).trans X
  refine⟨_,rfl,HS5,?_⟩;clear X;go_simp;refine hOn 3 rfl ?_;have az:=jG u 144 4 Tryz.underlying144 (xs:= [h0,h1,h2,h3]) (ys:=mg) (by rw[←aq.out];exact HB.take 4) EY rfl rfl;obtain⟨bm,ah⟩: ∃bm,bm=decide (xs.take 4=mg):=⟨_,rfl⟩;have H:decide ([h0,h1,h2,h3]=mg)=bm:=by rw[ah,aq.out]
  rw[H] at az;simp only[mg,nR,pU] at az;have aF:Hid _:=ah;clear H ah;refine jb (v:= .bool (!bm)) (w':=u) (by simp only[execOp,Act.eval];go_simp) ⟨HS5.out,?_⟩;go_simp;refine hDn ?_;go_wp2;go_meet;exact⟨by rw[aF.out],J⟩
 case rest=>
  obtain⟨rfl,G⟩:=hcut;generalize wc=u at*;have s5:=G.size;have J:Hid _:=ab.trans G;have T:Hid _:=(G.bk q.heap.size).trans af;have ac:Hid _:=(G.bk (w.heap.size+2)).trans am;have F:Hid _:=(J.bk w.heap.size).trans au;have E:Hid _:=(J.bk (w.heap.size+1)).trans av;have ae:Hid _:=ad.chg G zk;have K:Hid _:=HA.trans J;clear G af am ad ab au av;by_cases hm:xs.take 4=mg
  ·have Y:(!decide (xs.take 4=mg))=false:=by rw[mR hm];rfl
   rw[Y];have Hm:Hid _:=hm;obtain⟨k0,k1,k2,k3,k4,k5,k6⟩:u.cell? (zd q.heap.size)=some (zb h0)∧u.cell? ⟨q.heap.size,1,none⟩=some (zb h1)∧u.cell? ⟨q.heap.size,2,none⟩=some (zb h2)∧u.cell? ⟨q.heap.size,3,none⟩=some (zb h3)∧u.cell? ⟨q.heap.size,4,none⟩=some (za f)∧u.cell? ⟨q.heap.size,5,none⟩=some (za l)∧u.cell? ⟨q.heap.size,6,none⟩=some (za m):=by
    have:=T.out;simp[World.cell?,this]
   clear hm Y;by_cases hk:1≤f∧f≤4
   ·obtain⟨aA,aB⟩:=hk;have g1: ¬f<1:=zk;have g2: ¬f>4:=zk;have Hk:Hid (1≤f∧f≤4):=⟨aA,aB⟩;clear aA aB;go_upto_region 9 with fail;clear k0 k1 k2 k3 k4 k5 k6 g1 g2;have HS:Hid ((fun w':World=>(w'.heap[q.heap.size]?=some (zi (List.toArray [zb h0,zb h1,zb h2,zb h3,za f,za l,za m]) 146)∧w'.heap[w.heap.size+2]?=some (zi cs.toArray 78))∧w'.cell? (zd 5)=some (.iface tM vM)) u.drew):=⟨⟨T,ac⟩,ae.eM⟩;refine hRg (fun w':World=>(w'.heap[q.heap.size]?=some (zi (List.toArray [zb h0,zb h1,zb h2,zb h3,za f,za l,za m]) 146)∧w'.heap[w.heap.size+2]?=some (zi cs.toArray 78))∧w'.cell? (zd 5)=some (.iface tM vM)) ?_
    refine zI 0 (.agg cs.toArray) rfl zl zl zl (fun _ _ _ h=>h) (nl zl 78 (.tmp 5) rfl (w.heap.size+2) 0 rfl cs _ (fun w' g=>zy g.1.2) Tryz.underlying78 rfl p) HS ?_;go_simp;refine zI 1 (.agg (List.toArray [zb h0,zb h1,zb h2,zb h3,za f,za l,za m])) rfl zl zl zl (fun _ _ _ h=>h) (nl zl 146 (.tmp 6) rfl q.heap.size 0 rfl [zb h0,zb h1,zb h2,zb h3,za f,za l,za m] _ (fun w' g=>zy g.1.1) Tryz.underlying146 rfl zl) HS ?_
    go_simp;have n:=zr.drew (zr.refl 0 0 u);generalize u.drew=w6 at*;have s6:=n.size;have L:Hid _:=K.trans n;have R6:=(n.bk w.heap.size (zE F)).trans F;have Z:=(n.bk (w.heap.size+1) (zE E)).trans E;refine hOn 2 rfl ?_;refine wp_store_row 78 (.tmp 2) (.tmp 39) rfl rfl w.heap.size rfl cs Z64 78 rfl R6 (by rw[zN];exact U) p V ?_;intro w7 C s;have k:Hid ((fun w':World=>(w'.heap[q.heap.size]?=some (zi (List.toArray [zb h0,zb h1,zb h2,zb h3,za f,za l,za m]) 146)∧w'.heap[w.heap.size+2]?=some (zi cs.toArray 78))∧w'.cell? (zd 5)=some (.iface tM vM)) w7):=⟨⟨(s.bk q.heap.size (zE HS.1.1)).trans HS.1.1,(s.bk (w.heap.size+2) (zE HS.1.2)).trans HS.1.2⟩,s.cell HS.2⟩
    have Q7:=(s.bk (w.heap.size+1) (zE Z)).trans Z;refine⟨k,?_⟩;go_simp;refine hOn 3 rfl ?_;refine wsR [zb h0,zb h1,zb h2,zb h3,za f,za l,za m] Q7 ?_;intro z P t;have B:Hid ((fun w':World=>(w'.heap[q.heap.size]?=some (zi (List.toArray [zb h0,zb h1,zb h2,zb h3,za f,za l,za m]) 146)∧w'.heap[w.heap.size+2]?=some (zi cs.toArray 78))∧w'.cell? (zd 5)=some (.iface tM vM)) z):=⟨⟨(t.bk q.heap.size (zE k.1.1)).trans k.1.1,(t.bk (w.heap.size+2) (zE k.1.2)).trans k.1.2⟩,t.cell k.2⟩
    have N:Hid _:=(t.bk w.heap.size (zE C)).trans C;have O:Hid _:=P;have cz:zr w.heap.size (w.heap.size+2) w6 z:=(s.widen).trans (t.widen);have D:Hid _:=cz;refine⟨B,?_⟩;go_simp;refine hOn 4 rfl ?_;refine jb (v:= .nilIface) (w':=z) zq ⟨B.out,?_⟩;go_simp;refine hDn ?_;go_wp2;have R:(loadVar 78 (zd w.heap.size)).run Tryz.prog z= .ok (.agg cs.toArray) z:=nd _ _ _ _ cs _ (zy N) Tryz.underlying78 rfl p;have S:(loadVar 146 (zd (w.heap.size+1))).run Tryz.prog z= .ok (.agg (List.toArray [zb h0,zb h1,zb h2,zb h3,za f,za l,za m])) z:=nd _ _ _ _ [zb h0,zb h1,zb h2,zb h3,za f,za l,za m] _ (zy O) Tryz.underlying146 rfl zl
    refine mT (v:= .tuple #[.agg cs.toArray,.agg (List.toArray [zb h0,zb h1,zb h2,zb h3,za f,za l,za m]),.nilIface]) (Qr Tryz.results167 rfl rfl rfl R S) rfl ⟨_,by rw[ag.out],L.step D,?_⟩;exact Or.inr (Or.inr ⟨Hm,by rw[ar.out];exact Hk,rfl⟩)
   ·have hg:f<1∨(¬f<1∧f>4):=zk;have Hk:Hid _:=hk;rcases hg with g1|⟨g1,g2⟩
    all_goals
     go_upto_region 8 with fail
     have HS:Hid ((fun w':World=>(w'.heap[q.heap.size]?=some (zi (List.toArray [zb h0,zb h1,zb h2,zb h3,za f,za l,za m]) 146)∧w'.heap[w.heap.size+2]?=some (zi cs.toArray 78))∧w'.cell? (zd 1)=some (.iface tK vK)) u.drew):=⟨⟨T,ac⟩,ae.eK⟩
     refine hRg (fun w':World=>(w'.heap[q.heap.size]?=some (zi (List.toArray [zb h0,zb h1,zb h2,zb h3,za f,za l,za m]) 146)∧w'.heap[w.heap.size+2]?=some (zi cs.toArray 78))∧w'.cell? (zd 1)=some (.iface tK vK)) ?_
     refine zI 0 (.agg cs.toArray) rfl zl zl zl (fun _ _ _ h=>h) (nl zl 78 (.tmp 5) rfl (w.heap.size+2) 0 rfl cs _ (fun w' g=>zy g.1.2) Tryz.underlying78 rfl p) HS ?_
     go_simp
     refine zI 1 (.agg (List.toArray [zb h0,zb h1,zb h2,zb h3,za f,za l,za m])) rfl zl zl zl (fun _ _ _ h=>h) (nl zl 146 (.tmp 6) rfl q.heap.size 0 rfl [zb h0,zb h1,zb h2,zb h3,za f,za l,za m] _ (fun w' g=>zy g.1.1) Tryz.underlying146 rfl zl) HS ?_
     go_simp
     refine hTk 2 (.iface tK vK) rfl (fun w' g=>by have m0:=g.2;go_simp) HS.out ?_
     go_simp
     refine hOn 3 rfl ?_
     refine zv 168 #[za 0,.iface tK vK] zq (QZ u.drew 0 tK vK) ?_
     rintro e w6 ⟨rfl,hF,A⟩
     have n:=(zr.drew (zr.refl 0 0 u)).trans A
     have M:Hid _:=hF
     have y:Hid ((fun w':World=>(w'.heap[q.heap.size]?=some (zi (List.toArray [zb h0,zb h1,zb h2,zb h3,za f,za l,za m]) 146)∧w'.heap[w.heap.size+2]?=some (zi cs.toArray 78))∧w'.cell? (zd 1)=some (.iface tK vK)) w6):=⟨⟨(A.bk q.heap.size (zE HS.1.1)).trans HS.1.1,(A.bk (w.heap.size+2) (zE HS.1.2)).trans HS.1.2⟩,A.cell HS.2⟩
     refine⟨_,rfl,y,?_⟩
     have aj:u.drew.heap.size=u.heap.size:=rfl
     rw[aj]
     go_simp
     have L:Hid _:=K.trans n
     have R6:=(n.bk w.heap.size (zE F)).trans F
     have Z:=(n.bk (w.heap.size+1) (zE E)).trans E
     refine hOn 4 rfl ?_
     refine wp_store_row 78 (.tmp 2) (.tmp 35) rfl rfl w.heap.size rfl cs Z64 78 rfl R6 (by rw[zN];exact U) p V ?_
     intro w7 C s
     have k:Hid ((fun w':World=>(w'.heap[q.heap.size]?=some (zi (List.toArray [zb h0,zb h1,zb h2,zb h3,za f,za l,za m]) 146)∧w'.heap[w.heap.size+2]?=some (zi cs.toArray 78))∧w'.cell? (zd 1)=some (.iface tK vK)) w7):=⟨⟨(s.bk q.heap.size (zE y.1.1)).trans y.1.1,(s.bk (w.heap.size+2) (zE y.1.2)).trans y.1.2⟩,s.cell y.2⟩
     have Q7:=(s.bk (w.heap.size+1) (zE Z)).trans Z
     refine⟨k,?_⟩
     go_simp
     refine hOn 5 rfl ?_
     refine wsR [zb h0,zb h1,zb h2,zb h3,za f,za l,za m] Q7 ?_
     intro z P t
     have B:Hid ((fun w':World=>(w'.heap[q.heap.size]?=some (zi (List.toArray [zb h0,zb h1,zb h2,zb h3,za f,za l,za m]) 146)∧w'.heap[w.heap.size+2]?=some (zi cs.toArray 78))∧w'.cell? (zd 1)=some (.iface tK vK)) z):=⟨⟨(t.bk q.heap.size (zE k.1.1)).trans k.1.1,(t.bk (w.heap.size+2) (zE k.1.2)).trans k.1.2⟩,t.cell k.2⟩
     have N:Hid _:=(t.bk w.heap.size (zE C)).trans C
     have O:Hid _:=P
     have cz:zr w.heap.size (w.heap.size+2) w6 z:=(s.widen).trans (t.widen)
     have D:Hid _:=cz
     refine⟨B,?_⟩
     go_simp
     refine hOn 6 rfl ?_
     refine jb (v:= .iface 244 (zh u.heap.size)) (w':=z) zq ⟨B.out,?_⟩
     go_simp
     refine hDn ?_
     go_wp2
     have R:(loadVar 78 (zd w.heap.size)).run Tryz.prog z= .ok (.agg cs.toArray) z:=nd _ _ _ _ cs _ (zy N) Tryz.underlying78 rfl p
     have S:(loadVar 146 (zd (w.heap.size+1))).run Tryz.prog z= .ok (.agg (List.toArray [zb h0,zb h1,zb h2,zb h3,za f,za l,za m])) z:=nd _ _ _ _ [zb h0,zb h1,zb h2,zb h3,za f,za l,za m] _ (zy O) Tryz.underlying146 rfl zl
     refine mT (v:= .tuple #[.agg cs.toArray,.agg (List.toArray [zb h0,zb h1,zb h2,zb h3,za f,za l,za m]),.iface 244 (zh u.heap.size)]) (Qr Tryz.results167 rfl rfl rfl R S) rfl ⟨_,by rw[ag.out],L.step D,?_⟩
     exact Or.inr (Or.inl ⟨Hm,by rw[ar.out];exact Hk,⟨u.heap.size,0,zk,rfl,(D.bk u.heap.size (zE M)).trans M⟩⟩)
  ·have Y:(!decide (xs.take 4=mg))=true:=by rw[mY hm];rfl
   rw[Y];have Hm:Hid _:=hm;go_upto_region 6 with fail;have HS:Hid ((fun w':World=>(w'.heap[q.heap.size]?=some (zi (List.toArray [zb h0,zb h1,zb h2,zb h3,za f,za l,za m]) 146)∧w'.heap[w.heap.size+2]?=some (zi cs.toArray 78))∧w'.cell? (zd 5)=some (.iface tM vM)) u.drew):=⟨⟨T,ac⟩,ae.eM⟩;refine hRg (fun w':World=>(w'.heap[q.heap.size]?=some (zi (List.toArray [zb h0,zb h1,zb h2,zb h3,za f,za l,za m]) 146)∧w'.heap[w.heap.size+2]?=some (zi cs.toArray 78))∧w'.cell? (zd 5)=some (.iface tM vM)) ?_
   refine zI 0 (.agg cs.toArray) rfl zl zl zl (fun _ _ _ h=>h) (nl zl 78 (.tmp 5) rfl (w.heap.size+2) 0 rfl cs _ (fun w' g=>zy g.1.2) Tryz.underlying78 rfl p) HS ?_;go_simp;refine zI 1 (.agg (List.toArray [zb h0,zb h1,zb h2,zb h3,za f,za l,za m])) rfl zl zl zl (fun _ _ _ h=>h) (nl zl 146 (.tmp 6) rfl q.heap.size 0 rfl [zb h0,zb h1,zb h2,zb h3,za f,za l,za m] _ (fun w' g=>zy g.1.1) Tryz.underlying146 rfl zl) HS ?_
   go_simp;refine hTk 2 (.iface tM vM) rfl (fun w' g=>by have m0:=g.2;go_simp) HS.out ?_;go_simp;refine hOn 3 rfl ?_;refine zv 168 #[za 0,.iface tM vM] zq (QZ u.drew 0 tM vM) ?_;rintro e w6 ⟨rfl,hF,A⟩;have n:=(zr.drew (zr.refl 0 0 u)).trans A;have M:Hid _:=hF;have y:Hid ((fun w':World=>(w'.heap[q.heap.size]?=some (zi (List.toArray [zb h0,zb h1,zb h2,zb h3,za f,za l,za m]) 146)∧w'.heap[w.heap.size+2]?=some (zi cs.toArray 78))∧w'.cell? (zd 5)=some (.iface tM vM)) w6):=⟨⟨(A.bk q.heap.size (zE HS.1.1)).trans HS.1.1,(A.bk (w.heap.size+2) (zE HS.1.2)).trans HS.1.2⟩,A.cell HS.2⟩
   refine⟨_,rfl,y,?_⟩;have aj:u.drew.heap.size=u.heap.size:=rfl;rw[aj];go_simp;have L:Hid _:=K.trans n;have R6:=(n.bk w.heap.size (zE F)).trans F;have Z:=(n.bk (w.heap.size+1) (zE E)).trans E;refine hOn 4 rfl ?_;refine wp_store_row 78 (.tmp 2) (.tmp 23) rfl rfl w.heap.size rfl cs Z64 78 rfl R6 (by rw[zN];exact U) p V ?_;intro w7 C s;have k:Hid ((fun w':World=>(w'.heap[q.heap.size]?=some (zi (List.toArray [zb h0,zb h1,zb h2,zb h3,za f,za l,za m]) 146)∧w'.heap[w.heap.size+2]?=some (zi cs.toArray 78))∧w'.cell? (zd 5)=some (.iface tM vM)) w7):=⟨⟨(s.bk q.heap.size (zE y.1.1)).trans y.1.1,(s.bk (w.heap.size+2) (zE y.1.2)).trans y.1.2⟩,s.cell y.2⟩
   have Q7:=(s.bk (w.heap.size+1) (zE Z)).trans Z;refine⟨k,?_⟩;go_simp;refine hOn 5 rfl ?_;refine wsR [zb h0,zb h1,zb h2,zb h3,za f,za l,za m] Q7 ?_;intro z P t;have B:Hid ((fun w':World=>(w'.heap[q.heap.size]?=some (zi (List.toArray [zb h0,zb h1,zb h2,zb h3,za f,za l,za m]) 146)∧w'.heap[w.heap.size+2]?=some (zi cs.toArray 78))∧w'.cell? (zd 5)=some (.iface tM vM)) z):=⟨⟨(t.bk q.heap.size (zE k.1.1)).trans k.1.1,(t.bk (w.heap.size+2) (zE k.1.2)).trans k.1.2⟩,t.cell k.2⟩
   have N:Hid _:=(t.bk w.heap.size (zE C)).trans C;have O:Hid _:=P;have cz:zr w.heap.size (w.heap.size+2) w6 z:=(s.widen).trans (t.widen);have D:Hid _:=cz;refine⟨B,?_⟩;go_simp;refine hOn 6 rfl ?_;refine jb (v:= .iface 244 (zh u.heap.size)) (w':=z) zq ⟨B.out,?_⟩;go_simp;refine hDn ?_;go_wp2;have R:(loadVar 78 (zd w.heap.size)).run Tryz.prog z= .ok (.agg cs.toArray) z:=nd _ _ _ _ cs _ (zy N) Tryz.underlying78 rfl p
   have S:(loadVar 146 (zd (w.heap.size+1))).run Tryz.prog z= .ok (.agg (List.toArray [zb h0,zb h1,zb h2,zb h3,za f,za l,za m])) z:=nd _ _ _ _ [zb h0,zb h1,zb h2,zb h3,za f,za l,za m] _ (zy O) Tryz.underlying146 rfl zl;refine mT (v:= .tuple #[.agg cs.toArray,.agg (List.toArray [zb h0,zb h1,zb h2,zb h3,za f,za l,za m]),.iface 244 (zh u.heap.size)]) (Qr Tryz.results167 rfl rfl rfl R S) rfl ⟨_,by rw[ag.out],L.step D,?_⟩
   exact Or.inl ⟨Hm,⟨u.heap.size,0,zk,rfl,(D.bk u.heap.size (zE M)).trans M⟩⟩
theorem QV (w:World)(k:Int)(h1:zC w lo hi .u8 a xs)(hB:Byt xs)(hG:Za w tL tM tK vL vM vK)(Z:xs.length=64)(hm:xs.take 4=mg)(U:xs.getD 4 0=k)(V:1≤k∧k≤4:=by omega):
  Calls Tryz.prog 149 #[a,za k] w fun e w'=>e= .returned (.tuple #[.agg (xs.map (Value.int .u8)).toArray,.agg (hd7 xs),.nilIface])∧zr 0 0 w w':=by
 obtain⟨z1,z2,z3⟩:=zU w (zi Z64.toArray 78) (zi z7.toArray 146);have J:zr 0 0 w ((w.alloc (zi Z64.toArray 78)).alloc (zi z7.toArray 146)):=(zr.al w).alloc _;have K:=Xe ((w.alloc (zi Z64.toArray 78)).alloc (zi z7.toArray 146)) (h1.chg J zk) hB (hG.chg J zk) Z;obtain⟨ao,cap,rfl,_⟩:=h1;obtain⟨cs,p⟩: ∃cs,cs=xs.map (Value.int .u8):=⟨_,rfl⟩;have R:cs.length=64:=by rw[p];simpa using Z
 have L2: ∀v∈cs,v.oneCell'=true:=by rw[p];exact ints_oneCell _ _
 have c:(Tryz.prog.info? 78).map (·.size)=some cs.length:=by rw[R];kernel_rfl
 have B:Hid (cs.length=64):=R;have C:Hid (∀v∈cs,v.oneCell'=true):=L2;rw[←p] at K⊢;obtain⟨h0,h1,h2,h3,d,f,e7⟩: ∃h0 h1 h2 h3 d f:Int,hd7 xs= #[zb h0,zb h1,zb h2,zb h3,za k,za d,za f]:=⟨_,_,_,_,_,_,by unfold hd7;rw[U]⟩;rw[e7] at K⊢;have HO:Hid (∀w' I,dp xs w' ((w.alloc (zi Z64.toArray 78)).alloc (zi z7.toArray 146)).heap.size tM tK vM vK I→I= .nilIface):=by
  intro w' I h;rcases h with⟨h,_⟩|⟨_,h,_⟩|⟨_,_,h⟩
  ·exact absurd hm h
  ·rw[U] at h;exact absurd V h
  ·exact h
 clear p R L2 Z hB hG hm U e7;go_enter Tryz.func149,Tryz.ntmps149;go_upto_region 1 with fail;simp only[qd];generalize (w.alloc (zi Z64.toArray 78)).alloc (zi z7.toArray 146)=y at*;have P:Hid (y.heap[w.heap.size]?=some (zi Z64.toArray 78)):=z2;have Q:Hid (y.heap[w.heap.size+1]?=some (zi z7.toArray 146)):=z3;have HA:Hid (zr 0 0 w y):=J;have aa:w.heap.size+2≤y.heap.size:=zk;clear z1 z2 z3 J;go_wp2_with fail
 refine K.mono ?_;rintro e b ⟨I,rfl,T,H⟩;obtain rfl:=HO.out _ _ H;have s2:=T.size;have A:Hid (zr 0 0 y b):=T;clear K H HO T;obtain⟨y1,y2,y3⟩:=zU b (zi Z64.toArray 78) (zi z7.toArray 146);have F:zr 0 0 b ((b.alloc (zi Z64.toArray 78)).alloc (zi z7.toArray 146)):=(zr.al b).alloc _;have E:Hid (((b.alloc (zi Z64.toArray 78)).alloc (zi z7.toArray 146)).heap[b.heap.size]?=some (zi Z64.toArray 78)):=y2;have r:Hid (((b.alloc (zi Z64.toArray 78)).alloc (zi z7.toArray 146)).heap[b.heap.size+1]?=some (zi z7.toArray 146)):=y3
 have z:Hid (zr 0 0 b ((b.alloc (zi Z64.toArray 78)).alloc (zi z7.toArray 146))):=F;clear y1 y2 y3 F;go_upto_region 2 with(first
  |(refine wpList_store_row rfl 78 (.tmp 7) (.tmp 13) rfl rfl b.heap.size rfl cs Z64 78 rfl (by simp only[qd];exact E) (by rw[zN];exact B) c C ?_;intro w3 s g)
  |(refine wpList_store_row rfl 146 (.tmp 8) (.tmp 14) rfl rfl (b.heap.size+1) rfl [zb h0,zb h1,zb h2,zb h3,za k,za d,za f] z7 146 rfl (by simp only[qd] at g;exact(g.bk (b.heap.size+1) (zE r)).trans r) rfl zl (by simp[Value.oneCell']) ?_;intro m n o))
 have s3:=g.size;have s4:=o.size;have ab:b.heap.size+1<m.heap.size:=(zE n);have C4:zr 0 0 b m:=by
  simp only[qd] at g;exact(z.step g).step o
 have HH:Hid ((fun w':World=>w'.heap[b.heap.size+1]?=some (zi (List.toArray [zb h0,zb h1,zb h2,zb h3,za k,za d,za f]) 146)∧w'.heap[b.heap.size]?=some (zi cs.toArray 78)) m):=⟨n,(o.bk _ (zE s)).trans s⟩;have q:Hid (zr 0 0 y m):=A.trans C4;have k4:m.cell? ⟨b.heap.size+1,4,none⟩=some (za k):=by simp[World.cell?,n]
 have W:(k !=k)=false:=zn;clear s n g o C4 z E r A;go_upto_region 4 with fail;clear k4 W;have HS:Hid ((fun w':World=>w'.heap[b.heap.size+1]?=some (zi (List.toArray [zb h0,zb h1,zb h2,zb h3,za k,za d,za f]) 146)∧w'.heap[b.heap.size]?=some (zi cs.toArray 78)) m.drew):=HH.out;have L:Hid (zr 0 0 w m.drew):=(HA.trans q).drew;have R5:m.drew.heap[w.heap.size]?=some (zi Z64.toArray 78):=(q.bk w.heap.size).trans P
 have S:m.drew.heap[w.heap.size+1]?=some (zi z7.toArray 146):=(q.bk (w.heap.size+1)).trans Q;refine hRg (fun w':World=>w'.heap[b.heap.size+1]?=some (zi (List.toArray [zb h0,zb h1,zb h2,zb h3,za k,za d,za f]) 146)∧w'.heap[b.heap.size]?=some (zi cs.toArray 78)) ?_;clear HH;generalize m.drew=w5 at*;refine zI 0 (.agg cs.toArray) rfl zl zl zl (fun _ _ _ h=>h) (nl zl 78 (.tmp 7) rfl b.heap.size 0 rfl cs _ (fun w' u=>zy u.2) Tryz.underlying78 rfl c) HS ?_
 go_simp;refine zI 1 (.agg (List.toArray [zb h0,zb h1,zb h2,zb h3,za k,za d,za f])) rfl zl zl zl (fun _ _ _ h=>h) (nl zl 146 (.tmp 8) rfl (b.heap.size+1) 0 rfl [zb h0,zb h1,zb h2,zb h3,za k,za d,za f] _ (fun w' u=>zy u.1) Tryz.underlying146 rfl zl) HS ?_;go_simp;refine hT2 2 .nilIface rfl ?_;go_simp;refine hOn 3 rfl ?_;refine wp_store_row 78 (.tmp 4) (.tmp 27) rfl rfl w.heap.size rfl cs Z64 78 rfl R5 (by rw[zN];exact B) c C ?_
 intro w7 t i;have s7:=i.size;have l:Hid ((fun w':World=>w'.heap[b.heap.size+1]?=some (zi (List.toArray [zb h0,zb h1,zb h2,zb h3,za k,za d,za f]) 146)∧w'.heap[b.heap.size]?=some (zi cs.toArray 78)) w7):=⟨(i.bk _ (zE HS.1)).trans HS.1,(i.bk _ (zE HS.2)).trans HS.2⟩;have Q7:=(i.bk (w.heap.size+1) (zE S)).trans S;refine⟨l,?_⟩;go_simp;refine hOn 4 rfl ?_;refine wsR [zb h0,zb h1,zb h2,zb h3,za k,za d,za f] Q7 ?_
 intro x G j;have s8:=j.size;have D:Hid (_∧_):=⟨(j.bk _ (zE l.1)).trans l.1,(j.bk _ (zE l.2)).trans l.2⟩;have N:Hid _:=(j.bk w.heap.size (zE t)).trans t;have O:Hid _:=G;have cz:zr w.heap.size (w.heap.size+2) w5 x:=(i.widen).trans (j.widen);have M:Hid _:=cz;refine⟨D,?_⟩;clear cz t G i j R5 S Q7;go_simp;refine hOn 5 rfl ?_;refine jb (v:= .nilIface) (w':=x) zq ⟨D.out,?_⟩;go_simp;refine hDn ?_;go_wp2;have X:(loadVar 78 (zd w.heap.size)).run Tryz.prog x= .ok (.agg cs.toArray) x:=nd _ _ _ _ cs _ (zy N) Tryz.underlying78 rfl c
 have Y:(loadVar 146 (zd (w.heap.size+1))).run Tryz.prog x= .ok (.agg (List.toArray [zb h0,zb h1,zb h2,zb h3,za k,za d,za f])) x:=nd _ _ _ _ [zb h0,zb h1,zb h2,zb h3,za k,za d,za f] _ (zy O) Tryz.underlying146 rfl zl;exact mT (v:= .tuple #[.agg cs.toArray,.agg (List.toArray [zb h0,zb h1,zb h2,zb h3,za k,za d,za f]),.nilIface]) (Qr Tryz.results149 rfl rfl rfl X Y) rfl ⟨rfl,L.step M⟩
abbrev na:= @info_parts
abbrev nf:= @ints_oneCell
abbrev ns:= @Value.slice.injEq
abbrev ny:= @List.take_of_length_le
abbrev n9:= @Addr.add_mid
abbrev pe:= @cell_of_row
abbrev pH:= @and_true
abbrev pV:= @wpList_make_full
abbrev rp:= @Addr.mk.injEq
theorem zr.setRow (w:World)(g:Nat)(cs:Array Value):zr g (g+1) w (w.setRow g cs):=
 ⟨rfl,rfl,rfl,by simp[World.setRow],fun k _ a=>setRow_other w g k cs zk⟩
theorem Tryz.infoU:(Tryz.prog.info? 5).map (fun i=>(i.zero,i.size,i.bytes))=some (some (zb 0),1,1):=zl
theorem Zx (w:World)(xs:List Int)(u:xs.length=64):
  Calls Tryz.prog 35 #[.agg (xs.map (Value.int .u8)).toArray] w fun e w'=> ∃g,e= .returned (zg g 64 64)∧zu w' w.heap.size 5 (zg g 64 64) xs∧zr 0 0 w w':=by
 obtain⟨i,hi,x,y,z⟩:=na Tryz.infoU;obtain⟨cs,b⟩: ∃cs,cs=xs.map (Value.int .u8):=⟨_,rfl⟩;rw[←b];have C:cs.length=64:=by rw[b];simpa using u
 have D: ∀v∈cs,v.oneCell'=true:=by rw[b];exact nf _ _
 have HL1:Hid (cs.length=64):=C;have s:Hid (∀v∈cs,v.oneCell'=true):=D;have t:Hid (cs=xs.map (Value.int .u8)):=b;have H:Hid (xs.length=64):=u;have A:=zt w (zi cs.toArray 78);have n:Hid ((w.alloc (zi cs.toArray 78)).heap[w.heap.size]?=some (zi cs.toArray 78)):=A;clear C D b u A;go_enter Tryz.func35,Tryz.ntmps35;go_wp2_with (at_make;refine pV _ rfl _ _ 22 rfl w.heap.size 5 i (zb 0) 1 Tryz.underlying22 hi x y _ _ _ _ 64 rfl rfl rfl rfl (by rw[z];omega) (by unfold maxLen;omega) zn ?_)
 intro c h a;obtain⟨cur,r,m⟩: ∃cur,c.heap[w.heap.size+1]?=some (zi cur 5)∧cur.size=64:=by
  rcases h.2 with⟨q,_⟩|⟨J,E,cur,q,K,r,_,_,hs,_⟩
  ·cases q
  ·simp only[ns,nS,rp,pH,true_and] at q;obtain⟨rfl,rfl⟩:=q;exact⟨cur,r,by simpa using hs⟩
 have p:c.heap[w.heap.size]?=some (zi cs.toArray 78):=(a.block w.heap.size zn zn).trans n;have B:zr 0 0 w c:=(zr.al w).trans (zr.ofGrown a zn);have l: ∀j v,cs[j]?=some v→c.cell? (((zd w.heap.size):Addr).add j)=some v:=by
  intro j v I;rw[n9,ni,pe c w.heap.size j cs.toArray 78 (0,0) p];simpa using I
 have Hg:Hid (c.heap[w.heap.size+1]?=some (zi cur 5)):=r;have o:Hid (cur.size=64):=m;have f:Hid (∀j v,cs[j]?=some v→c.cell? (((zd w.heap.size):Addr).add j)=some v):=l;have k:cur.toList.take 0++(cs++cur.toList.drop (0+cs.length))=cs:=by
  rw[oI,nG,ni,oZ (by rw[rX,m,HL1.out];exact mP _),nw]
 have d:Hid (cur.toList.take 0++(cs++cur.toList.drop (0+cs.length))=cs):=k;clear h a r m l p k n;go_wp2_with (refine wpList_copy_own rfl (.tmp 5) (.tmp 6) 22 22 rfl 5 Tryz.underlying22 zl (w.heap.size+1) 0 64 64 (zd w.heap.size) 64 64 rfl rfl cur 5 Hg.out cs (by rw[HL1.out];rfl) f.out (by rw[HL1.out,o.out];omega) s.out ?_;rw[d.out]);have G:Hid (zu (c.setRow (w.heap.size+1) cs.toArray) w.heap.size 5 (zg (w.heap.size+1) 64 64) xs):=by
  show zu _ _ _ _ _;unfold zu;rw[H.out,←t.out];refine⟨by rw[HL1.out],Or.inr ⟨w.heap.size+1,64,cs.toArray,rfl,zk,setRow_heap _ _ _ _ _ _ Hg.out,mP _,by unfold maxLen;omega,by simpa using HL1.out,?_⟩⟩;exact ny (by simp[HL1.out])
 have F:Hid (zr 0 0 w (c.setRow (w.heap.size+1) cs.toArray)):=B.step (zr.setRow _ _ _) (Or.inr (Or.inl zk));clear B Hg o f d;go_ret;exact⟨_,rfl,G,F⟩
theorem jY {P:Program}{a:Act}{K:Act→World→Prop}(d s:Operand)(r y:TypeId)
  (B:o.op= .call {callee:= .builtin .copy,args:= #[d,s],argTypes:= #[r,y]}) (c:TypeId) (C:P.underlying r=some (.slice c)) (u:(P.info? c).map (·.size)=some 1)
  (g i b k:Nat) (q:Addr) (e l:Nat) (z:a.eval d=zj (some ⟨g,i,none⟩) b k) (hs:a.eval s=zj (some q) e l)
  (f:List Value) (t:TypeId) (x:w.heap[g]?=some (zi f.toArray t)) (cs:List Value) (A:cs.length=Nat.min e b)
  (p: ∀j v,cs[j]?=some v→w.cell? (q.add j)=some v) (m:i+cs.length≤f.length) (h1: ∀v∈cs,v.oneCell'=true)
  (h: ∀w',Hid (w'.heap[g]?=some (zi (splice f i cs).toArray t))→zr g (g+1) w w'→K (a.put o.dst (goInt cs.length)) w'):
  Oper.wp P o a w K Q:=by
 have n:=run_copy_row (P:=P) w r y o.type c g i b k q e l f.toArray t cs C u x A p (by simpa using m) h1;unfold Oper.wp;simp[execOp,B,resolve,invoke,builtin,z,hs,n,Result.andThen];exact h _ (show _=_ by simpa [splice] using setRow_heap w g _ _ t _ x) (zr.setRow _ _ _)
abbrev nc:= @info_parts
abbrev nL:= @World.ownsRow_lit
abbrev pT:= @World.ownsRow.stored
theorem Tryz.infoU1:(Tryz.prog.info? 5).map (fun i=>(i.zero,i.size,i.bytes))=some (some (zb 0),1,1):=zl
def ZZ (v:Int):Nat→List Int
 |0=> []
 |n+1=>(v/256^n % 256)::ZZ v n
theorem qX (v:Int)(n:Nat):(ZZ v n).length=n:=by
 induction n with
 |zero=>rfl
 |succ n ih=>simp[ZZ,ih]
theorem VD (v:Int)(k:Nat):v/256^ (k+1)=v/256^k/256:=by
 rw[rW,Int.ediv_ediv_of_nonneg (sE (Int.pow_pos zp))]
theorem Qo {v:Int}(h:0≤v)(k:Nat):0≤v/256^k:=Int.ediv_nonneg h (sE (Int.pow_pos zp))
theorem E4 {v:Int}(h:0≤v)(k:Nat):v/256^k≤v:=Int.ediv_le_self _ h
def zx (v n:Int):List Int:=if n<1∨n>8∨v<0 then [] else if v/256^n.toNat>0 then [] else ZZ v n.toNat
theorem zX (w:World)(v n:Int)(V:v≤9223372036854775807:=by omega):Calls Tryz.prog 100 #[za v,za n] w fun e w'=> ∃r,e= .returned r∧zu w' w.heap.size 5 r (zx v n)∧zr 0 0 w w':=by
 obtain⟨i,hi,A,B,C⟩:=nc Tryz.infoU1;have o:zr 0 0 w (w.alloc (zi #[] 5)):=zr.al w;have x:(w.alloc (zi #[] 5)).ownsRow w.heap.size 5 1 (zg w.heap.size 0 0) 0 []:=by
  have:=nL (base:=w.heap.size) (e:=5) (size:=1) w #[] 0 nlR (by unfold maxLen;omega) rfl;simpa using this
 by_cases b:n<1∨n>8∨v<0
 ·have HO:Hid (zu (w.alloc (zi #[] 5)) w.heap.size 5 (zg w.heap.size 0 0) (zx v n)):=by
   show zu _ _ _ _ _;unfold zx;rw[mM b];exact x
  clear x;by_cases h1:n<1
  ·go_enter Tryz.func100,Tryz.ntmps100;go_wp2;go_ret;exact⟨_,rfl,HO,o⟩
  ·by_cases h2:n>8
   ·go_enter Tryz.func100,Tryz.ntmps100;go_wp2;go_ret;exact⟨_,rfl,HO,o⟩
   ·have h3:v<0:=zk;go_enter Tryz.func100,Tryz.ntmps100;go_wp2;go_ret;exact⟨_,rfl,HO,o⟩
 ·obtain⟨m,rfl⟩: ∃m:Nat,n=(m:Int):=⟨n.toNat,zk⟩;have h1: ¬(m:Int)<1:=zk;have h2: ¬(m:Int)>8:=zk;have h3: ¬v<0:=zk;have HO:Hid (zu (w.alloc (zi #[] 5)) w.heap.size 5 (zg w.heap.size 0 0) (ZZ v 0)):=x;have D:Hid (¬((m:Int)<1∨(m:Int)>8∨v<0)):=b;have HC:Hid (zr 0 0 w (w.alloc (zi #[] 5))):=o;clear x b o;go_enter Tryz.func100,Tryz.ntmps100;go_wp2;go_loopw [0,5,6] (fun u out i wr=> ∃k:Nat,k≤m∧i=za k∧u=za (v/256^k)∧(∃g cap,out=zg g k cap)∧zu wr w.heap.size 5 out (ZZ v k)∧zr 0 0 w wr) (fun _ _ i _=>m-(intOf i).toNat)
  case atStart=>exact⟨0,mX _,rfl,zn,⟨_,_,rfl⟩,HO,HC⟩
  case round=>
   obtain⟨k,J,rfl,rfl,⟨g,cap,rfl⟩,t,l⟩:=hrel;clear HO HC;by_cases U:k<m
   ·have hi':(k:Int)<(m:Int):=zk;have P:=Qo (v:=v) zk k;have Q:=E4 (v:=v) zk k;generalize L:v/256^k=u at*;have a:=qX v k;have F:(wr.alloc (zi #[zb (u % 256)] 5)).ownsRow w.heap.size 5 1 (zg wr.heap.size 1 1) 1 [zb (u % 256)]:=
     nL (base:=w.heap.size) (e:=5) (size:=1) wr #[zb (u % 256)] 1 l.size (by unfold maxLen;omega) rfl
    have h: ∀j y,((ZZ v k).map (Value.int .u8))[j]?=some y→(wr.alloc (zi #[zb (u % 256)] 5)).cell? (((zd g):Addr).add j)=some y:=by
     intro j y I;have T:j<k:=by have:=(nD.1 I).1;simpa [a] using this
     have z:wr.ownsRow w.heap.size 5 1 (zg g k cap) k ((ZZ v k).map (Value.int .u8)):=by
      have:=t;unfold zu at this;rw[a] at this;exact this
     have H:=nA z j zk;rw[I] at H;rw[Addr.add_mid,ni];exact(zr.al wr).cell H
    have f:Hid (∀j y,((ZZ v k).map (Value.int .u8))[j]?=some y→(wr.alloc (zi #[zb (u % 256)] 5)).cell? (((zd g):Addr).add j)=some y):=h;have bs:Hid (w.heap.size≤(wr.alloc (zi #[zb (u % 256)] 5)).heap.size):=by show _≤_;have:=l.size;simp;omega
    have p:Hid _:=F;have O:Hid ((ZZ v k).length=k):=a;have HU:Hid (v/256^k=u):=L;have E:Hid (zr 0 0 w wr):=l;clear h t F a L l;go_wp2_with (at_builtin;refine wpList_append_own _ rfl (.tmp 27) (.tmp 28) 22 rfl w.heap.size 5 i (zb 0) 1 1 Tryz.underlying22 hi A B C rfl zp _ 1 [zb (u % 256)] rfl p.out (zd g) k cap ((ZZ v k).map (Value.int .u8)) rfl (by rw[mO,O.out];omega) f.out (ints_oneCell _ _) (by unfold maxLen;omega) zk bs.out ?_)
    intro M N d c s;have HO:Hid (zu N w.heap.size 5 M (ZZ v (k+1))):=by
     show zu _ _ _ _ _;unfold zu;rw[qX,ZZ,HU.out,nR,ru k 1];exact d
    have HV:Hid (∃g cap,M=zg g (k+1) cap):=by
     show∃g cap,_;rcases d.2 with⟨e,_⟩|⟨S,q,R,e,_⟩
     ·exact absurd e (by simpa using s)
     ·exact⟨S,q,by rw[e,ru]⟩
    have HC:Hid (zr 0 0 w N):=(E.alloc _).step (zr.ofGrown (lo:=wr.heap.size) (hi:=wr.heap.size+1) c (fun k J _=>by simp only[Value.ownBlock,nS] at J;omega)) (Or.inr (Or.inl E.size));clear d c s p f bs;go_wp2;go_roundw
    case rel=>exact⟨k+1,zk,by go_num,by rw[VD,HU.out],HV.out,HO.out,HC.out⟩
    case measure=>simp[intOf];omega
   ·obtain rfl:k=m:=zk;have G:(k:Int).toNat=k:=zk;have P:=Qo (v:=v) zk k;have Q:=E4 (v:=v) zk k;by_cases K:v/256^k>0
    ·have HO:Hid (zu (wr.alloc (zi #[] 5)) w.heap.size 5 (zg wr.heap.size 0 0) (zx v k)):=by
      show zu _ _ _ _ _;unfold zx;rw[mN D.out,G,mM K];have:=nL (base:=w.heap.size) (e:=5) (size:=1) wr #[] 0 l.size (by unfold maxLen;omega) rfl;exact this
     have HC:=l.alloc (zi #[] 5);generalize v/256^k=u at*;clear t;go_wp2;go_ret;exact⟨_,rfl,HO,HC⟩
    ·have HO:Hid (zu wr w.heap.size 5 (zg g k cap) (zx v k)):=by
      show zu _ _ _ _ _;unfold zx;rw[mN D.out,G,mN K];exact t
     generalize v/256^k=u at*;clear t;go_wp2;go_ret;exact⟨_,rfl,HO,l⟩
theorem gU (v:Int)(m k:Nat)(h:k<m):
  ((List.replicate (m-k) 0++ZZ v k).map (Value.int .u8)).set (m-k-1) (zb (v/256^k % 256))=(List.replicate (m-(k+1)) 0++ZZ v (k+1)).map (Value.int .u8):=by
 have e:m-k=(m-(k+1))+1:=zk;have a:m-k-1=m-(k+1):=zk;rw[a,e,List.replicate_succ',nk,m6,m6,sG];simp[ZZ]
theorem jM (w:World)(v n:Int)(S:v≤9223372036854775807:=by omega):Calls Tryz.prog 124 #[za v,za n] w fun e w'=> ∃r,e= .returned r∧zu w' w.heap.size 5 r (zx v n)∧zr 0 0 w w':=by
 obtain⟨i,hi,t,x,z⟩:=nc Tryz.infoU1;by_cases d:n<1∨n>8∨v<0
 ·have h:Hid (zu w w.heap.size 5 (zc) (zx v n)):=by
   show zu _ _ _ _ _;unfold zx;rw[mM d];exact zu.nil _ _ _
  by_cases h1:n<1
  ·go_enter Tryz.func124,Tryz.ntmps124;go_wp2;go_ret;exact⟨_,rfl,h,zr.refl _ _ _⟩
  ·by_cases h2:n>8
   ·go_enter Tryz.func124,Tryz.ntmps124;go_wp2;go_ret;exact⟨_,rfl,h,zr.refl _ _ _⟩
   ·have h3:v<0:=zk;go_enter Tryz.func124,Tryz.ntmps124;go_wp2;go_ret;exact⟨_,rfl,h,zr.refl _ _ _⟩
 ·obtain⟨m,rfl⟩: ∃m:Nat,n=(m:Int):=⟨n.toNat,zk⟩;have h1: ¬(m:Int)<1:=zk;have h2: ¬(m:Int)>8:=zk;have h3: ¬v<0:=zk;have B:Hid (¬((m:Int)<1∨(m:Int)>8∨v<0)):=d;clear d;go_enter Tryz.func124,Tryz.ntmps124;go_wp2_with (at_make;refine wpList_make_full _ rfl _ _ 22 rfl w.heap.size 5 i (zb 0) 1 Tryz.underlying22 hi t x _ _ _ _ m rfl rfl rfl rfl (by rw[z];omega) (by unfold maxLen;omega) zn ?_);intro A a f;have hch:zr 0 0 w A:=zr.ofGrown f zn
  have hO:zu A w.heap.size 5 (zg w.heap.size m m) (List.replicate (m-0) 0++ZZ v 0):=by
   unfold zu;simpa [toList_madeCells_one,ZZ] using a
  have F:w.heap.size<A.heap.size:=by
   have:=np a w.heap.size rfl;omega
  clear a f;go_wp2;go_loopw [5,7] (fun u i wr=> ∃k:Nat,k≤m∧i=za ((m:Int)-k-1)∧u= .int .u64 (v/256^k)∧zu wr w.heap.size 5 (zg w.heap.size m m) (List.replicate (m-k) 0++ZZ v k)∧zr 0 0 w wr) (fun _ i _=>(intOf i+1).toNat)
  case atStart=>exact⟨0,mX _,by go_num,zn,hO,hch⟩
  case round=>
   obtain⟨k,R,rfl,rfl,a,o⟩:=hrel;clear hO hch;have c:(List.replicate (m-k) 0++ZZ v k).length=m:=by simp[qX];omega
   have O:=Qo (v:=v) zk k;have P:=E4 (v:=v) zk k;by_cases s:k<m
   ·obtain⟨j,p⟩: ∃j:Nat,j=m-k-1:=⟨_,rfl⟩;have E:(m:Int)-k-1=(j:Int):=zk;have b:wr.ownsRow w.heap.size 5 1 (zg w.heap.size m m) m ((List.replicate (m-k) 0++ZZ v k).map (Value.int .u8)):=by
     have:=a;unfold zu at this;rw[c] at this;exact this
    have C: ∃y,wr.cell? ⟨w.heap.size,j,none⟩=some y:=by
     have:=nA b j zk;rw[this];exact⟨_,mZ (by rw[mO,c];omega)⟩
    obtain⟨y,C⟩:=C;have Q:wr.frozen? ⟨w.heap.size,j,none⟩=false:=World.ownsRow.frozenAt b j;have l:=(pT b j (zb (v/256^k % 256))).1;rw[p,gU _ _ _ s,←p] at l;have g:(List.replicate (m-(k+1)) 0++ZZ v (k+1)).length=m:=by simp[qX];omega
    have I:Hid (zu (wr.setCell ⟨w.heap.size,j,none⟩ (zb (v/256^k % 256))) w.heap.size 5 (zg w.heap.size m m) (List.replicate (m-(k+1)) 0++ZZ v (k+1))):=by
     show zu _ _ _ _ _;unfold zu;rw[g];exact l
    have q:Hid (zr 0 0 w (wr.setCell ⟨w.heap.size,j,none⟩ (zb (v/256^k % 256)))):=o.setCell (Or.inr nlR) _;have J:Hid (v/256^ (k+1)=v/256^k/256):=VD v k;generalize v/256^k=u at*;clear l a b c g o;rw[E];have L:(j:Int)<(m:Int):=zk;have H:Hid (j=m-k-1):=p;clear p E;go_wp2;go_roundw
    case rel=>exact⟨k+1,zk,by have:=H.out;congr 1;omega,by rw[J.out],I,q⟩
    case measure=>simp[intOf]
   ·obtain rfl:k=m:=zk;have D:(k:Int).toNat=k:=zk;have K:(k:Int)-k-1= -1:=zk;rw[K];clear c;by_cases G:v/256^k>0
    ·have h:Hid (zu wr w.heap.size 5 (zc) (zx v k)):=by
      show zu _ _ _ _ _;unfold zx;rw[mN B.out,D,mM G];exact zu.nil _ _ _
     have M:(v/256^k !=0)=true:=by simp;omega
     generalize v/256^k=u at*;clear a;go_wp2;go_ret;exact⟨_,rfl,h,o⟩
    ·have h:Hid (zu wr w.heap.size 5 (zg w.heap.size k k) (zx v k)):=by
      show zu _ _ _ _ _;unfold zx;rw[mN B.out,D,mN G];have:=a;rw[pf,rK,nG] at this;exact this
     have N:v/256^k=0:=zk;rw[N];clear a;go_wp2;go_ret;exact⟨_,rfl,h,o⟩
theorem zu.nothing (w:World)(N:Nat)(e:TypeId):zu w N e (zc) []:=⟨rfl,Or.inl ⟨rfl,rfl⟩⟩
theorem Eb (w:World)(a b:Obj):((w.alloc a).alloc b).heap[w.heap.size]?=some a:=(zU w a b).2.1
theorem Vs (w:World)(b a:Obj):((w.alloc b).alloc a).heap[w.heap.size+1]?=some a:=(zU w b a).2.2
theorem aN {s:Nat}{b c:Value}{t:TypeId}(h:w.heap[s]?=some (zi #[a,b,c] t)):
  w.cell? (zd s)=some a∧w.cell? ⟨s,1,none⟩=some b∧w.cell? ⟨s,2,none⟩=some c:=by
 simp[World.cell?,h]
abbrev nM:= @wpList_load_mid
def YT (h0 h1 h2 h3 kd it sq:Int):List Int:= [h0,h1,h2,h3,kd,0]++zx it 2++zx sq 4++List.replicate 52 0
theorem QS (w:World)(h0 h1 h2 h3 kd it sq:Int)(af:0≤kd)(ag:kd<256)(hi:it≤9223372036854775807)(hq:sq≤9223372036854775807)(T:(zx it 2).length=2)(U:(zx sq 4).length=4):
  Calls Tryz.prog 123 #[.agg #[zb h0,zb h1,zb h2,zb h3,za kd,za it,za sq]] w fun e w'=>e= .returned (.agg ((YT h0 h1 h2 h3 kd it sq).map (Value.int .u8)).toArray)∧zr 0 0 w w':=by
 have k:Hid _:=T;have m:Hid _:=U;clear T U;have N:Hid (Beg w (((w.alloc (zi #[zb h0,zb h1,zb h2,zb h3,za kd,za it,za sq] 146)).alloc (zi Z64.toArray 78)).alloc (zi Z64.toArray 78)) (zi #[zb h0,zb h1,zb h2,zb h3,za kd,za it,za sq] 146) (Z64)):=by
  show Beg _ _ _ _;have e1:(w.alloc (zi #[zb h0,zb h1,zb h2,zb h3,za kd,za it,za sq] 146)).heap.size=w.heap.size+1:=zn;obtain⟨z1,z2,z3⟩:=zU (w.alloc (zi #[zb h0,zb h1,zb h2,zb h3,za kd,za it,za sq] 146)) (zi Z64.toArray 78) (zi Z64.toArray 78);rw[e1] at z1 z2 z3;refine⟨?_,z2,z3,((zr.al w).alloc _).alloc _⟩;have D:zr 0 0 (w.alloc (zi #[zb h0,zb h1,zb h2,zb h3,za kd,za it,za sq] 146)) (((w.alloc (zi #[zb h0,zb h1,zb h2,zb h3,za kd,za it,za sq] 146)).alloc (zi Z64.toArray 78)).alloc (zi Z64.toArray 78)):=(zr.al _).alloc _
  exact(D.bk w.heap.size).trans (zt w _)
 go_enter Tryz.func123,Tryz.ntmps123;go_upto_region 2 with fail;simp only[qd];generalize (((w.alloc (zi #[zb h0,zb h1,zb h2,zb h3,za kd,za it,za sq] 146)).alloc (zi Z64.toArray 78)).alloc (zi Z64.toArray 78))=wa at*;go_cut [7] (fun _ wx=>Beg w wx (zi #[zb h0,zb h1,zb h2,zb h3,za kd,za it,za sq] 146) (splice Z64 0 [zb h0,zb h1,zb h2,zb h3]))
 case first=>
  have HS0:Hid _:=trivial;refine hRg (fun _:World=>True) ?_;refine hTk 0 (zj (some ⟨w.heap.size+1+1,0,none⟩) 4 64) rfl (fun w' n=>zm) HS0.out ?_;go_simp;refine hTk 1 (zh w.heap.size) rfl (fun w' n=>zm) HS0.out ?_;go_simp;refine hTk 2 (zg w.heap.size 4 4) rfl (fun w' n=>zm) HS0.out ?_;go_simp;have h:Hid _:=N.chg (zr.drew (zr.refl 0 0 wa));refine hOn 3 rfl ?_;refine jY (.tmp 4) (.tmp 6) 22 22 rfl 5 Tryz.underlying22 zl (w.heap.size+1+1) 0 4 64 (zd w.heap.size) 4 4 rfl rfl Z64 78 h.b2 [zb h0,zb h1,zb h2,zb h3] rfl ?_ (by rw[zN];simp) (by simp[Value.oneCell']) ?_
  ·intro j v G;have P:=h.b0;have u:j<4:=by have:=(nD.1 G).1;simpa using this
   rcases j with _|_|_|_|j
   all_goals first|omega|(simp at G;subst G;simp[World.cell?,Addr.add,P])
  intro w1 R S;have o:Hid _:=h.put S R.out;refine⟨trivial,?_⟩;clear R S;go_simp;refine hDn ?_;go_wp2;go_meet;exact o
 case rest=>
  have x:Hid _:=hcut;have Q:=x.b0;have k4:wc.cell? ⟨w.heap.size,4,none⟩=some (za kd):=by simp[World.cell?,Q]
  have E:=x.b2;have e4:(splice Z64 0 [zb h0,zb h1,zb h2,zb h3])[4]?=some (zb 0):=by unfold Z64 splice;rfl
  have k5:wc.cell? ⟨w.heap.size+1+1,4,none⟩=some (zb 0):=by simp only[World.cell?,E,rI,e4];rfl
  have f5:wc.frozen? ⟨w.heap.size+1+1,4,none⟩=false:=by simp[World.frozen?,E]
  have C:Hid (Beg w (wc.setCell ⟨w.heap.size+1+1,4,none⟩ (zb kd)) (zi #[zb h0,zb h1,zb h2,zb h3,za kd,za it,za sq] 146) ((splice Z64 0 [zb h0,zb h1,zb h2,zb h3]).set 4 (zb kd))):=by
   show Beg _ _ _ _;refine x.put (zr.setCell (p:=⟨w.heap.size+1+1,4,none⟩) (zr.refl _ _ wc) (Or.inl ⟨mP _,m5 _⟩) _) ?_;have M:=x.lt;simp[World.setCell,E,rH]
  clear Q E e4 x N hcut;go_upto_region 4 with fail;generalize wc.setCell ⟨w.heap.size+1+1,4,none⟩ (zb kd)=wd at*;clear k4 k5 f5;go_cut [16] (fun _ wx=>Beg w wx (zi #[zb h0,zb h1,zb h2,zb h3,za kd,za it,za sq] 146) (splice ((splice Z64 0 [zb h0,zb h1,zb h2,zb h3]).set 4 (zb kd)) 6 ((zx it 2).map (Value.int .u8))))
  case first=>
   have h:Hid _:=C.chg (zr.drew (zr.refl 0 0 wd));have HS0:Hid ((fun w':World=>w'.cell? ⟨w.heap.size,5,none⟩=some (za it)) wd.drew):=by
    have P:=h.b0;show _=_;simp[World.cell?,P]
   refine hRg (fun w':World=>w'.cell? ⟨w.heap.size,5,none⟩=some (za it)) ?_;refine hTk 0 (zj (some ⟨w.heap.size+1+1,6,none⟩) 2 58) rfl (fun w' n=>zm) HS0.out ?_;go_simp;refine hTk 1 (.pointer (some ⟨w.heap.size,5,none⟩)) rfl (fun w' n=>zm) HS0.out ?_;go_simp;refine hTk 2 (za it) rfl (fun w' n=>by have h4:w'.cell? _=_:=n;go_simp) HS0.out ?_;go_simp;generalize wd.drew=x1 at*;have M:=h.lt;have O:=jM x1 it 2
   refine hOn 3 rfl ?_;refine zv 124 #[za it,za 2] zq O ?_;rintro e W ⟨r,rfl,I,D⟩;have o:Hid _:=h.chg D;have y:Hid _:=D.cell HS0;obtain⟨g,z,rfl,l⟩: ∃g z,r=zg g 2 z∧ ∀i,i<2→W.cell? ⟨g,i,none⟩=some (zb ((zx it 2).getD i 0)):=by
    have hv:=I.view (hi:=W.heap.size) (by rw[k.out];omega) (fun g hg=>(I.lt g hg).2);rcases I.2 with⟨_,h0⟩|⟨g,z,ab,rfl,_⟩
    ·rw[k.out] at h0;omega
    ·refine⟨g,z,by rw[k.out],fun i hi=>hv.cellAt' i (by rw[k.out];exact hi)⟩
   refine⟨_,rfl,y,?_⟩;have q:Hid _:=l;clear O I D l;go_simp;refine hOn 4 rfl ?_;refine jY (.tmp 12) (.tmp 15) 22 22 rfl 5 Tryz.underlying22 zl (w.heap.size+1+1) 6 2 58 (zd g) 2 z rfl rfl ((splice Z64 0 [zb h0,zb h1,zb h2,zb h3]).set 4 (zb kd)) 78 o.b2 ((zx it 2).map (Value.int .u8)) (by rw[mO,k.out];rfl) ?_ (by rw[mO,k.out];simp[splice,zN]) (nf _ _) ?_
   ·intro j v G;have u:j<2:=by have:=(nD.1 G).1;rwa [mO,k.out] at this
    have L:j<(zx it 2).length:=by rw[k.out];exact u
    rw[n9,ni,q.out j u,←G];simp[L]
   intro x3 A s;have J:Hid _:=o.put s A.out;have K:Hid _:=s.cell y;refine⟨K,?_⟩;clear A s;go_simp;refine hDn ?_;go_wp2;go_meet;exact J
  case rest=>
   have C:Hid _:=hcut;generalize wc=we at*;clear hcut;go_upto_region 5 with fail;go_cut [21] (fun _ wx=>Beg w wx (zi #[zb h0,zb h1,zb h2,zb h3,za kd,za it,za sq] 146) (splice (splice ((splice Z64 0 [zb h0,zb h1,zb h2,zb h3]).set 4 (zb kd)) 6 ((zx it 2).map (Value.int .u8))) 8 ((zx sq 4).map (Value.int .u8))))
   case first=>
    have h:Hid _:=C.chg (zr.drew (zr.refl 0 0 we));have HS0:Hid ((fun w':World=>w'.cell? ⟨w.heap.size,6,none⟩=some (za sq)) we.drew):=by
     have P:=h.b0;show _=_;simp[World.cell?,P]
    refine hRg (fun w':World=>w'.cell? ⟨w.heap.size,6,none⟩=some (za sq)) ?_;refine hTk 0 (zj (some ⟨w.heap.size+1+1,8,none⟩) 4 56) rfl (fun w' n=>zm) HS0.out ?_;go_simp;refine hTk 1 (.pointer (some ⟨w.heap.size,6,none⟩)) rfl (fun w' n=>zm) HS0.out ?_;go_simp;refine hTk 2 (za sq) rfl (fun w' n=>by have h4:w'.cell? _=_:=n;go_simp) HS0.out ?_;go_simp;generalize we.drew=x1 at*;have M:=h.lt;have O:=jM x1 sq 4
    refine hOn 3 rfl ?_;refine zv 124 #[za sq,za 4] zq O ?_;rintro e W ⟨r,rfl,I,D⟩;have o:Hid _:=h.chg D;have y:Hid _:=D.cell HS0;obtain⟨g,z,rfl,l⟩: ∃g z,r=zg g 4 z∧ ∀i,i<4→W.cell? ⟨g,i,none⟩=some (zb ((zx sq 4).getD i 0)):=by
     have hv:=I.view (hi:=W.heap.size) (by rw[m.out];omega) (fun g hg=>(I.lt g hg).2);rcases I.2 with⟨_,h0⟩|⟨g,z,ab,rfl,_⟩
     ·rw[m.out] at h0;omega
     ·refine⟨g,z,by rw[m.out],fun i hi=>hv.cellAt' i (by rw[m.out];exact hi)⟩
    refine⟨_,rfl,y,?_⟩;have q:Hid _:=l;clear O I D l;go_simp;refine hOn 4 rfl ?_;refine jY (.tmp 17) (.tmp 20) 22 22 rfl 5 Tryz.underlying22 zl (w.heap.size+1+1) 8 4 56 (zd g) 4 z rfl rfl (splice ((splice Z64 0 [zb h0,zb h1,zb h2,zb h3]).set 4 (zb kd)) 6 ((zx it 2).map (Value.int .u8))) 78 o.b2 ((zx sq 4).map (Value.int .u8)) (by rw[mO,m.out];rfl) ?_ (by rw[mO,m.out];simp[splice,zN,k.out]) (nf _ _) ?_
    ·intro j v G;have u:j<4:=by have:=(nD.1 G).1;rwa [mO,m.out] at this
     have L:j<(zx sq 4).length:=by rw[m.out];exact u
     rw[n9,ni,q.out j u,←G];simp[L]
    intro x3 A s;have J:Hid _:=o.put s A.out;have K:Hid _:=s.cell y;refine⟨K,?_⟩;clear A s;go_simp;refine hDn ?_;go_wp2;go_meet;exact J
   case rest=>
    have t:Hid _:=hcut;generalize wc=wf at*;clear hcut C;have hF:splice (splice ((splice Z64 0 [zb h0,zb h1,zb h2,zb h3]).set 4 (zb kd)) 6 ((zx it 2).map (Value.int .u8))) 8 ((zx sq 4).map (Value.int .u8))=(YT h0 h1 h2 h3 kd it sq).map (Value.int .u8):=by
     unfold YT
     match h2':zx it 2,k,h4':zx sq 4,m with
     | [a,b],_,[c,d,e,f],_=>unfold Z64 splice;rfl
    rw[hF] at t;have H:((YT h0 h1 h2 h3 kd it sq).map (Value.int .u8)).length=64:=by
     rw[mO];unfold YT;simp[k.out,m.out]
    obtain⟨cs,F⟩: ∃cs,cs=(YT h0 h1 h2 h3 kd it sq).map (Value.int .u8):=⟨_,rfl⟩;have Y:Hid (∀v∈cs,v.oneCell'=true):=by show∀v∈cs,v.oneCell'=true;rw[F];exact nf _ _
    rw[←F] at t H;have Z:Hid _:=F;have B:(Tryz.prog.info? 78).map (·.size)=some cs.length:=by rw[H];kernel_rfl
    have aa:Hid _:=H;have V:=Tryz.underlying78;have HR:Hid _:=zy t.b2;have M:=t.lt;clear hF H F;go_wp2_with (first
     |(refine nM rfl 78 (.tmp 3) rfl (w.heap.size+1+1) 0 rfl cs _ HR V rfl B ?_)
     |(refine wpList_store_row rfl 78 (.tmp 2) (.tmp 22) rfl rfl (w.heap.size+1) rfl cs Z64 78 rfl t.b1 (by rw[zN];exact aa) B Y ?_;intro wg ac ad))
    have X:Hid _:=t.ch.step ad;have ae:(loadVar 78 (zd (w.heap.size+1))).run Tryz.prog wg= .ok (.agg cs.toArray) wg:=nd _ _ _ _ cs _ (zy ac) V rfl B;go_wp2;exact mT (v:= .agg cs.toArray) (zH Tryz.results123 rfl ae) rfl ⟨by rw[Z.out],X⟩
structure Enc (w x:World)(B:Nat)(hd:Obj)(cur:List Value):Prop where
 b0:x.heap[w.heap.size]?=some hd
 b1:x.heap[w.heap.size+1]?=some (zi Z64.toArray 78)
 b2:x.heap[B]?=some (zi cur.toArray 78)
 lo:w.heap.size+1<B
 ch:zr 0 0 w x
theorem Enc.lt (h:Enc w x B hd cur):B<x.heap.size:=(zE h.b2)
theorem Enc.chg {y:World}(h:Enc w x B hd cur)(c:zr 0 0 x y):Enc w y B hd cur:=
 have:=h.lt
 have:=h.lo
 ⟨c.bt h.b0,c.bt h.b1,c.bt h.b2,h.lo,h.ch.trans c⟩
theorem Enc.put {y:World}{cur':List Value}(h:Enc w x B hd cur)(c:zr B (B+1) x y)(a:y.heap[B]?=some (zi cur'.toArray 78)):Enc w y B hd cur':=
 have:=h.lt
 have:=h.lo
 ⟨c.bt h.b0,c.bt h.b1,a,h.lo,h.ch.step c⟩
theorem NH {h0 h1 h2 h3 kd it sq:Int}(a:(zx it 2).length=2)(b:(zx sq 4).length=4):(YT h0 h1 h2 h3 kd it sq).length=64:=by
 unfold YT;simp[a,b]
abbrev rM:= @Go.WideShapes.add_plain
theorem zC.str {v:Value}(h:zC w lo hi .u8 v xs):(convert 22 9 v).run Tryz.prog w= .ok (.string (strOfNums xs)) w:=by
 obtain⟨i,cap,rfl,_,_,c⟩:=h
 cases i with
 |none=>
  rcases c with rfl|⟨b,f,e,_⟩
  ·exact run_convert_bytes_nil w 22 5 Tryz.underlying22 Tryz.underlying5 0 cap 9 Tryz.underlying9
  ·cases e
 |some a=>
  have l:(loadCells a xs.length).run Tryz.prog w= .ok (xs.map (Value.int .u8)).toArray w:=by
   have:=run_loadCells_list (P:=Tryz.prog) w a (xs.map (Value.int .u8)) (fun j v g=>by
    have d:j<xs.length:=by have:=(nD.1 g).1;simpa using this
    rcases c with rfl|⟨b,f,e,_,_,k⟩
    ·simp at d
    ·cases e
     rw[rM,k j d,←g];simp[d])
   simpa using this
  rw[run_convert_bytes_string w 22 9 5 _ _ _ Tryz.underlying22 Tryz.underlying5 Tryz.underlying9,run_bytesToString w _ _ _ xs l,foldl_push_bytes];simp[strOfNums,ByteArray.empty,ByteArray.emptyWithCapacity];rfl
theorem zC.take {k:IntKind}{ao:Option Addr}(h:zC w lo hi k (zj ao n cap) xs)(m:Nat)(p:m≤xs.length:=by omega):zC w lo hi k (zj ao m cap) (xs.take m):=by
 obtain⟨g,f,e,o,⟨l,c⟩,h⟩:=h
 cases e
 have a:(xs.take m).length=m:=by rw[mW];omega
 refine⟨ao,cap,by rw[a],zk,⟨zk,c⟩,?_⟩;rcases h with h|⟨b,d,j,h1,h2,h3⟩
 ·left;rw[h];simp
 ·refine Or.inr ⟨b,d,j,h1,h2,fun i hi=>?_⟩;rw[a] at hi;have e:(xs.take m).getD i 0=xs.getD i 0:=by
   simp only[mV,oA];rw[mM hi]
  rw[e];exact h3 i zk
theorem j5 (w:World){hi':Nat}{b:Value}(d:Byt xs)(f:Byt ys)(h1:zC w lo hi .u8 a xs)(h2:zC w lo' hi' .u8 b ys):
  Calls Tryz.prog 52 #[a,b] w fun e w'=>e= .returned (.bool (decide (xs=ys)))∧w'=w:=by
 have i:=h1.str;have j:=h2.str;have k:=d7 d f;obtain⟨g,cap,rfl,_⟩:=h1;obtain⟨h,c,rfl,_⟩:=h2;generalize strOfNums xs=s at*;generalize strOfNums ys=t at*;generalize decide (xs=ys)=r at*;go_enter Tryz.func52,Tryz.ntmps52;go_wp2;go_ret;exact⟨rfl,rfl⟩
theorem Q0 (w:World):Calls Tryz.prog 137 #[] w fun e w'=>e= .returned (zg w.heap.size 4 4)∧zu w' w.heap.size 5 (zg w.heap.size 4 4) mg∧zr 0 0 w w':=by
 have b:Hid (zu (w.alloc (zi #[zb 106,zb 108,zb 111,zb 103] 5)) w.heap.size 5 (zg w.heap.size 4 4) mg):=by
  show zu _ _ _ _ _;have:=World.ownsRow_lit (base:=w.heap.size) (e:=5) (size:=1) w #[zb 106,zb 108,zb 111,zb 103] 4 nlR (by unfold maxLen;omega) rfl;simpa [zu,mg] using this
 have a:Hid (zr 0 0 w (w.alloc (zi #[zb 106,zb 108,zb 111,zb 103] 5))):=zr.al w;go_enter Tryz.func137,Tryz.ntmps137;go_wp2;go_ret;exact⟨rfl,b,a⟩
def beg (xs:List Int):Bool:=decide (4≤xs.length)&&decide (xs.take 4=mg)
theorem QN (w:World)(i:Byt xs)(h1:zC w lo hi .u8 a xs):
  Calls Tryz.prog 101 #[a] w fun e w'=>e= .returned (.bool (beg xs))∧zr 0 0 w w':=by
 have f:=h1;obtain⟨n,cap,rfl,t,_,_⟩:=h1;by_cases d:4≤xs.length
 ·have b:(xs.length:Int)≥4:=zk;have p:4≤cap:=by
   obtain⟨_,_,o,_,⟨h,_⟩,_⟩:=f;simp only[Value.slice.injEq] at o;omega
  have c:beg xs=decide (xs.take 4=mg):=by unfold beg;rw[mR d];rfl
  rw[c];have m:Hid (zC w lo hi .u8 (zj n xs.length cap) xs):=f;have k:Hid (Byt xs):=i;have l:Hid (4≤xs.length):=d;clear f c i d;go_enter Tryz.func101,Tryz.ntmps101;go_wp2;go_region_with (first
   |(go_at_call 137;refine(Q0 _).mono ?_;rintro e w' ⟨rfl,j,h⟩)
   |(go_at_call 52;refine(j5 (xs:=xs.take 4) (ys:=mg) _ (k.out.take 4) EY ((m.out.take 4 l.out).chg ((zr.drew (zr.refl 0 0 w)).trans h) zk) (j.view (hi:=w'.heap.size) (by simp[mg]) (fun g q=>(j.lt g q).2))).mono ?_;rintro e r ⟨rfl,rfl⟩))
  all_goals (try go_wp2)
  all_goals (go_ret;exact⟨rfl,(zr.drew (zr.refl 0 0 w)).trans h⟩)
 ·have b: ¬(xs.length:Int)≥4:=zk;have c:beg xs=false:=by unfold beg;rw[mY d];rfl
  rw[c];have s:decide ((xs.length:Int)≥4)=false:=by simpa using b
  clear f b c;go_enter Tryz.func101,Tryz.ntmps101;go_wp2;go_quiet (fail);go_wp2;go_ret;exact⟨rfl,(zr.refl 0 0 w).drewN _⟩
abbrev nK:= @World.ownsRow_lit
theorem Zr (w:World)(F:xs.length≤1048576)(h1:zC w lo hi .u8 a xs):
  Calls Tryz.prog 85 #[a] w fun e w'=> ∃v,e= .returned v∧zu w' w.heap.size 5 v xs∧zr 0 0 w w':=by
 obtain⟨i,hi,p,q,r⟩:=na Tryz.infoU;obtain⟨B,cap,rfl,_,⟨_,d⟩,h1⟩:=h1;have o:zr 0 0 w (w.alloc (zi #[] 5)):=zr.al w;have A:(w.alloc (zi #[] 5)).ownsRow w.heap.size 5 1 (zg w.heap.size 0 0) 0 []:=by
  have:=nK (base:=w.heap.size) (e:=5) (size:=1) w #[] 0 nlR (by unfold maxLen;omega) rfl;simpa using this
 have f:Hid ((w.alloc (zi #[] 5)).ownsRow w.heap.size 5 1 (zg w.heap.size 0 0) 0 []):=A;have n:Hid (zr 0 0 w (w.alloc (zi #[] 5))):=o;have bs:Hid (w.heap.size≤(w.alloc (zi #[] 5)).heap.size):=by show _≤_;simp
 cases B with
 |none=>
  obtain rfl:xs= []:=by
   rcases h1 with h1|⟨b,s,e,_⟩
   ·exact h1
   ·cases e
  obtain rfl:cap=0:=d rfl;clear h1 d o;go_enter Tryz.func85,Tryz.ntmps85;go_wp2_with (at_builtin;refine wpList_append_own_none rfl (.tmp 3) (.tmp 4) 22 rfl w.heap.size 5 i 1 Tryz.underlying22 hi _ 0 [] rfl f.out rfl ?_);go_ret;exact⟨_,rfl,f,n⟩
 |some ad=>
  have m: ∀j u,(xs.map (Value.int .u8))[j]?=some u→(w.alloc (zi #[] 5)).cell? (ad.add j)=some u:=by
   intro j u t;have g:j<xs.length:=by have:=(nD.1 t).1;simpa using this
   rcases h1 with h1|⟨b,s,e,_,_,C⟩
   ·rw[h1] at g;simp at g
   ·cases e
    rw[n9,o.cell (C j g),←t];simp[g]
  have h:Hid (∀j u,(xs.map (Value.int .u8))[j]?=some u→(w.alloc (zi #[] 5)).cell? (ad.add j)=some u):=m;clear h1 d m o;go_enter Tryz.func85,Tryz.ntmps85;go_wp2_with (at_builtin;refine wpList_append_own _ rfl (.tmp 3) (.tmp 4) 22 rfl w.heap.size 5 i (zb 0) 1 1 Tryz.underlying22 hi p q r rfl zp _ 0 [] rfl f.out ad xs.length cap (xs.map (Value.int .u8)) rfl zn h.out (nf _ _) (by unfold maxLen;omega) zk bs.out ?_)
  intro E x l c _;have z:Hid (zu x w.heap.size 5 E xs):=by
   show zu _ _ _ _ _;unfold zu;simpa using l
  have y:Hid (zr 0 0 w x):=n.step (zr.ofGrown (lo:=w.heap.size) (hi:=w.heap.size+1) c (fun k D _=>by simp only[Value.ownBlock,nS] at D;omega)) (Or.inr (Or.inl nlR));clear l c f n h bs;go_wp2;go_ret;exact⟨_,rfl,z,y⟩
theorem qS (w:World)(n:Nat)(l:n≤1048576:=by omega):
  Calls Tryz.prog 63 #[za n] w fun e w'=> ∃g,e= .returned (zg g n n)∧zu w' w.heap.size 5 (zg g n n) (List.replicate n 0)∧zr 0 0 w w':=by
 obtain⟨i,hi,c,d,f⟩:=na Tryz.infoU;go_enter Tryz.func63,Tryz.ntmps63;go_wp2_with (at_make;refine pV _ rfl _ _ 22 rfl w.heap.size 5 i (zb 0) 1 Tryz.underlying22 hi c d _ _ _ _ n rfl rfl zk zk (by rw[f];omega) (by unfold maxLen;omega) zk ?_);intro h b a;have k:Hid (zu h w.heap.size 5 (zg w.heap.size n n) (List.replicate n 0)):=by
  show zu _ _ _ _ _;unfold zu;simpa [toList_madeCells_one] using b
 have j:Hid (zr 0 0 w h):=zr.ofGrown a zn;clear b a;go_wp2;go_ret;exact⟨_,rfl,k,j⟩
theorem qw (w:World){off:Nat}(O:xs.length≤1048576)(P:ys.length≤1048576)(h1:zC w lo hi .u8 a xs)(h2:zC w lo' w.heap.size .u8 (zj (some ⟨b,off,none⟩) n cap) ys):
  Calls Tryz.prog 48 #[a,zj (some ⟨b,off,none⟩) n cap] w fun e w'=> ∃v,e= .returned v∧zu w' w.heap.size 5 v (xs++ys)∧zr 0 0 w w':=by
 obtain⟨i,hi,z,A,B⟩:=na Tryz.infoU;have C:=Zr w O h1;obtain⟨_,_,e,_,_,d⟩:=h2;simp only[ns] at e;obtain⟨rfl,rfl,rfl⟩:=e;have D: ∀i,i<ys.length→w.cell? ⟨b,off+i,none⟩=some (zb (ys.getD i 0)):=by
  rcases d with e|⟨_,_,e,_,h3,N⟩
  ·intro i hi;rw[e] at hi;exact absurd hi (nW i)
  ·cases e;exact N
 have M:Hid (∀i,i<ys.length→w.cell? ⟨b,off+i,none⟩=some (zb (ys.getD i 0))):=D;have x: ∃t n c,a=zj t n c:=by obtain⟨t,c,rfl,_⟩:=h1;exact⟨t,_,c,rfl⟩
 obtain⟨t,U,T,rfl⟩:=x;clear d D h1;go_enter Tryz.func48,Tryz.ntmps48;go_wp2_with fail;refine C.mono ?_;rintro e o ⟨S,rfl,F,h⟩;have g:o.ownsRow w.heap.size 5 1 S xs.length (xs.map (Value.int .u8)):=F;obtain⟨I,H,G,rfl⟩:=zF g;have m:Hid (o.ownsRow w.heap.size 5 1 (zj I H G) xs.length (xs.map (Value.int .u8))):=g;have Q:=h.size;have p:Hid (zr 0 0 w o):=h;have q:Hid (∀j u,(ys.map (Value.int .u8))[j]?=some u→o.cell? ((⟨b,off,none⟩:Addr).add j)=some u):=by
  intro j u E;have r:j<ys.length:=by have:=(nD.1 E).1;simpa using this
  rw[n9,h.cell (M.out j r),←E];simp[r]
 clear C F h g;go_wp2_with (at_builtin;refine wpList_append_own _ rfl (.tmp 8) (.tmp 9) 22 rfl w.heap.size 5 i (zb 0) 1 1 Tryz.underlying22 hi z A B rfl zp _ xs.length (xs.map (Value.int .u8)) rfl m.out ⟨b,off,none⟩ ys.length cap (ys.map (Value.int .u8)) rfl zn q.out (nf _ _) (by unfold maxLen;omega) zk zk ?_);intro R J l f _;have L:Hid (zu J w.heap.size 5 R (xs++ys)):=by
  show zu _ _ _ _ _;unfold zu;rw[mL,m6];exact l
 have s: ∀k,(Value.slice I H G).ownBlock=some k→w.heap.size≤k∧k<o.heap.size:=fun k y=>np m k y;have K:Hid (zr 0 0 w J):=p.step (zr.ofGrown (lo:=w.heap.size) (hi:=o.heap.size) f (fun k y _=>s k y)) (Or.inr (Or.inl nlR));clear l f m p q s;go_wp2;go_ret;exact⟨_,rfl,L,K⟩
theorem j4 (w:World){off:Nat}(d:xs.length≤1048576)(c:ys.length≤1048576)(h1:zC w lo hi .u8 a xs)(h2:zC w lo' w.heap.size .u8 (zj (some ⟨b,off,none⟩) n cap) ys)(_hy:0<ys.length):
  Calls Tryz.prog 48 #[a,zj (some ⟨b,off,none⟩) n cap] w fun e w'=> ∃v,e= .returned v∧zu w' w.heap.size 5 v (xs++ys)∧zr 0 0 w w':=qw w d c h1 h2
def qA (q:Int):Bool:=decide (1≤q)&&decide (q≤4294967295)
theorem jC (w:World)(q:Int):Calls Tryz.prog 90 #[za q] w fun e w'=>e= .returned (.bool (qA q))∧w'=w:=by
 by_cases h1:1≤q
 ·by_cases h2:q≤4294967295
  ·have a:qA q=true:=by unfold qA;rw[mR h1,mR h2];rfl
   rw[a];go_enter Tryz.func90,Tryz.ntmps90;go_wp2;go_ret;exact⟨rfl,rfl⟩
  ·have a:qA q=false:=by unfold qA;rw[mY h2];simp
   rw[a];go_enter Tryz.func90,Tryz.ntmps90;go_wp2;go_ret;exact⟨rfl,rfl⟩
 ·have a:qA q=false:=by unfold qA;rw[mY h1];rfl
  rw[a];go_enter Tryz.func90,Tryz.ntmps90;go_wp2;go_ret;exact⟨rfl,rfl⟩
def qk (xs:List Int):List Int:=xs++List.replicate (64-xs.length) 0
theorem N8 (w:World)(u:xs.length<64)(h1:zC w lo hi .u8 a xs):
  Calls Tryz.prog 98 #[a] w fun e w'=> ∃v,e= .returned v∧zu w' w.heap.size 5 v (qk xs)∧zr 0 0 w w':=by
 have o:=h1;obtain⟨t,cap,rfl,_,_,_⟩:=h1;obtain⟨n,m⟩: ∃n:Nat,n=64-xs.length:=⟨_,rfl⟩;have l:Calls Tryz.prog 63 #[za (64-(xs.length:Int))] w fun e w'=> ∃g,e= .returned (zg g n n)∧zu w' w.heap.size 5 (zg g n n) (List.replicate n 0)∧zr 0 0 w w':=by
  have:=qS w n;rwa [show((n:Nat):Int)=64-(xs.length:Int) by omega] at this
 have f:Hid (n=64-xs.length):=m;have i:0<n:=zk;clear m;go_enter Tryz.func98,Tryz.ntmps98;go_wp2_with fail;refine l.mono ?_;rintro e p ⟨g,rfl,j,d⟩;have hs:=d.size;have b:=j4 (xs:=xs) (ys:=List.replicate n 0) (lo':=w.heap.size) p zk (by simp;have:=f.out;omega) (o.chg d zk) (j.view (hi:=p.heap.size) (by simp;have:=f.out;omega) (fun g h=>(j.lt g h).2)) (by simpa using i);clear l j o;go_wp2_with fail;refine b.mono ?_
 rintro e q ⟨v,rfl,k,c⟩;have s:Hid (zu q w.heap.size 5 v (qk xs)):=by
  show zu _ _ _ _ _;unfold qk;rw[←f.out];exact k.base (fun g h=>by have:=(k.lt g h).1;omega)
 have r:Hid (zr 0 0 w q):=d.trans c;clear b k c d;go_wp2;go_ret;exact⟨_,rfl,s,r⟩
abbrev oS:= @wp_append_own
abbrev oV:= @wpList_plain
theorem aU {a:Act}{K:Act→World→Prop}(s x:Operand)
  (G:o.op= .call {callee:= .builtin .append,args:= #[s,x],argTypes:= #[22,22]})
  (base:Nat) (p:Value) (xs:List Int) (hs:a.eval s=p) (D:zu w base 5 p xs) (f:base≤w.heap.size) (lo hi:Nat) (B:Value) (ys:List Int) (I:a.eval x=B) (H:zC w lo hi .u8 B ys) (A:0<ys.length) (L:xs.length+ys.length≤1048576)
  (h: ∀q w',zu w' base 5 q (xs++ys)→zr base w.heap.size w w'→K (a.put o.dst q) w'):o.wp Tryz.prog a w K Q:=by
 obtain⟨i,hi,t,v,y⟩:=nc Tryz.infoU1;obtain⟨C,cap,rfl,_,_,g⟩:=H;obtain⟨b,c,rfl,E⟩: ∃b c,C=some ⟨b,c,none⟩∧ ∀i,i<ys.length→w.cell? ⟨b,c+i,none⟩=some (zb (ys.getD i 0)):=by
  rcases g with e|⟨b,c,e,_,_,h3⟩
  ·rw[e] at A;simp at A
  ·exact⟨b,c,e,h3⟩
 have r: ∀j u,(ys.map (Value.int .u8))[j]?=some u→w.cell? ((⟨b,c,none⟩:Addr).add j)=some u:=by
  intro j u z;have m:j<ys.length:=by have:=(nD.1 z).1;simpa using this
  rw[Addr.add_mid,E j m,←z];simp[m]
 have d:w.ownsRow base 5 1 p xs.length (xs.map (Value.int .u8)):=D;refine oS _ s x 22 G base 5 i (zb 0) 1 1 Tryz.underlying22 hi t v y rfl zp p xs.length (xs.map (Value.int .u8)) hs d ⟨b,c,none⟩ ys.length cap (ys.map (Value.int .u8)) I zn r (ints_oneCell _ _) (by unfold maxLen;omega) zk f ?_;intro q J n l _;refine h q J ?_ (zr.ofGrown l (fun k F _=>np d k F));unfold zu;rw[mL,m6];exact n
theorem qp {ops:Array Oper}{rest:List Oper}{a:Act}(d:o.guard=none)(s x:Operand)
  (j:o.op= .call {callee:= .builtin .append,args:= #[s,x],argTypes:= #[22,22]})
  (base:Nat) (e:Value) (xs:List Int) (hs:a.eval s=e) (g:zu w base 5 e xs) (b:base≤w.heap.size) (lo hi:Nat) (f:Value) (ys:List Int) (l:a.eval x=f) (k:zC w lo hi .u8 f ys) (m:0<ys.length) (i:xs.length+ys.length≤1048576)
  (h: ∀c w',zu w' base 5 c (xs++ys)→zr base w.heap.size w w'→wpList Tryz.prog ops Q rest (a.put o.dst c) w'):wpList Tryz.prog ops Q (o::rest) a w:=
 oV d fun _ hK=>aU s x j base e xs hs g b lo hi f ys l k m i fun c w' h1 h2=>hK _ _ (h c w' h1 h2)
def zD (k c q:Int):List Int:=mg++ [k,0]++zx c 2++zx q 4
theorem QB (w:World)(k c q:Int)(hk:0≤k∧k<256)(hc:c≤9223372036854775807)(hq:q≤9223372036854775807)(F:(zx c 2).length=2)(G:(zx q 4).length=4):
  Calls Tryz.prog 99 #[za k,za c,za q] w fun e w'=> ∃v,e= .returned v∧zu w' w.heap.size 5 v (zD k c q)∧zr 0 0 w w':=by
 have h:=Q0 w;obtain⟨k0,k1⟩:=hk;have b:Hid ((zx c 2).length=2):=F;have j:Hid ((zx q 4).length=4):=G;clear F G;go_enter Tryz.func99,Tryz.ntmps99;go_wp2_with fail;refine h.mono ?_;rintro e a ⟨rfl,o1,l⟩;have s1:=l.size;have L:zr 0 0 a (a.alloc (zi #[zb k,zb 0] 5)):=zr.al a;have s:Hid (zu (a.alloc (zi #[zb k,zb 0] 5)) w.heap.size 5 (zg w.heap.size 4 4) mg):=o1.chg L (by intro g _;omega);have z:Hid (zC (a.alloc (zi #[zb k,zb 0] 5)) a.heap.size (a.heap.size+1) .u8 (zg a.heap.size 2 2) [k,0]):=by
  refine⟨_,2,rfl,zn,⟨zn,zn⟩,Or.inr ⟨_,0,rfl,mP _,m5 _,fun i hi=>?_⟩⟩;have aa:i<2:=by simpa using hi
  have hn:=zt a (zi #[zb k,zb 0] 5);simp only[World.cell?,hn];rcases i with _|_|i
  all_goals first|rfl|omega
 have V:Hid (w.heap.size≤(a.alloc (zi #[zb k,zb 0] 5)).heap.size):=nz s1 L.size;have m:Hid (zr 0 0 w (a.alloc (zi #[zb k,zb 0] 5))):=l.trans L;clear o1 l L h;go_wp2_with (at_builtin;refine qp rfl (.tmp 8) (.tmp 11) rfl w.heap.size _ mg rfl s.out V.out _ _ _ [k,0] rfl z.out zn (by simp[mg]) ?_);intro v3 H T C;have O:zr 0 0 w H:=m.step C (Or.inr (Or.inl nlR));have s3:=O.size;obtain⟨W,l3,Y,rfl⟩:=zF T
 have t:Hid (zu H w.heap.size 5 (zj W l3 Y) (mg++ [k,0])):=T;have n:Hid (zr 0 0 w H):=O;have h:=zX H c 2 hc;clear T C O m V z s;go_wp2_with fail;refine h.mono ?_;rintro e I ⟨v4,rfl,M,d⟩;have s4:=d.size;have u:Hid (zu I w.heap.size 5 (zj W l3 Y) (mg++ [k,0])):=t.chg d (by intro g _;omega);have A:Hid (zC I H.heap.size I.heap.size .u8 v4 (zx c 2)):=M.view (by rw[b.out];omega) (fun g S=>(M.lt g S).2);have o:Hid (zr 0 0 w I):=n.trans d
 have b4:w.heap.size≤I.heap.size:=zk;have p2:Hid (0<(zx c 2).length):=by show _<_;rw[b.out];omega
 have m2:Hid ((mg++ [k,0]).length+(zx c 2).length≤1048576):=by show _≤_;rw[b.out];simp[mg]
 obtain⟨e4,l4,k4,rfl⟩:=zF M;clear M d h t n;go_wp2_with (at_builtin;refine qp rfl (.tmp 13) (.tmp 15) rfl w.heap.size _ (mg++ [k,0]) rfl u.out b4 _ _ _ (zx c 2) rfl A.out p2.out m2.out ?_);intro v5 J U D;have P:zr 0 0 w J:=o.step D (Or.inr (Or.inl nlR));have s5:=P.size;obtain⟨X,l5,Z,rfl⟩:=zF U;have x:Hid (zu J w.heap.size 5 (zj X l5 Z) (mg++ [k,0]++zx c 2)):=U;have p:Hid (zr 0 0 w J):=P;have h:=zX J q 4 hq
 clear U D P o A u;go_wp2_with fail;refine h.mono ?_;rintro e K ⟨v6,rfl,N,f⟩;have s6:=f.size;have y:Hid (zu K w.heap.size 5 (zj X l5 Z) (mg++ [k,0]++zx c 2)):=x.chg f (by intro g _;omega);have B:Hid (zC K J.heap.size K.heap.size .u8 v6 (zx q 4)):=N.view (by rw[j.out];omega) (fun g S=>(N.lt g S).2);have r:Hid (zr 0 0 w K):=p.trans f;have b6:w.heap.size≤K.heap.size:=zk;have p4:Hid (0<(zx q 4).length):=by show _<_;rw[j.out];omega
 have m4:Hid ((mg++ [k,0]++zx c 2).length+(zx q 4).length≤1048576):=by show _≤_;rw[j.out,mL,b.out];simp[mg]
 obtain⟨e6,l6,k6,rfl⟩:=zF N;clear N f h x p;go_wp2_with (at_builtin;refine qp rfl (.tmp 17) (.tmp 19) rfl w.heap.size _ (mg++ [k,0]++zx c 2) rfl y.out b6 _ _ _ (zx q 4) rfl B.out p4.out m4.out ?_);intro v7 w7 o7 E;have Q:Hid (zr 0 0 w w7):=r.step E (Or.inr (Or.inl nlR));have R:Hid (zu w7 w.heap.size 5 v7 (zD k c q)):=o7;clear o7 E r B y;go_wp2;go_ret;exact⟨_,rfl,R,Q⟩
def qR (w:World) (b:Nat) (T:TypeId) (cs:List Value):Prop:=w.heap[b]?=some (zi cs.toArray T)
theorem qR.lt (h:qR w b T cs):b<w.heap.size:=(zE h)
theorem qR.cell (h:qR w b T cs)(i:Nat){v:Value}(c:cs[i]?=some v:=by omega):w.cell? ⟨b,i,none⟩=some v:=by
 have a:w.heap[b]?=some (zi cs.toArray T):=h;simp only[World.cell?,a];simpa using c
theorem qR.frozen (h:qR w b T cs)(i:Nat):w.frozen? ⟨b,i,none⟩=false:=by
 have a:w.heap[b]?=some (zi cs.toArray T):=h;simp[World.frozen?,a]
theorem qR.put (h:qR w b T cs)(i:Nat)(v:Value):qR (w.setCell ⟨b,i,none⟩ v) b T (cs.set i v):=by
 have a:w.heap[b]?=some (zi cs.toArray T):=h;show(w.setCell ⟨b,i,none⟩ v).heap[b]?=_;simp only[World.setCell,rH,if_true,a,Option.map_some];simp
theorem qR.chg {w':World}{l r:Nat}(h:qR w b T cs)(c:zr l r w w')(d:b<l∨r≤b):qR w' b T cs:=(c.block b h.lt d).trans h
theorem qR.new (w:World)(T:TypeId)(cs:List Value):qR (w.alloc (zi cs.toArray T)) w.heap.size T cs:=zt w _
def qm (xs:List Int):List Int:=xs.flatMap fun x=>zx x 2
theorem Zc {x:Int}(h:0≤x∧x<2048):(zx x 2).length=2:=by
 unfold zx;rw[mN zk,mN (by have:(256:Int)^ (2:Int).toNat=65536:=rfl;rw[this];omega),qX];rfl
theorem Jn (h: ∀x∈xs,0≤x∧x<2048):(qm xs).length=2*xs.length:=by
 unfold qm
 induction xs with
 |nil=>rfl
 |cons x r ih=>
  rw[nX,mL,Zc (h x zn),ih (fun y a=>h y (by simp[a])),m7];omega
theorem V6 {k:Nat}(h:k<xs.length):qm (xs.take (k+1))=qm (xs.take k)++zx (xs.getD k 0) 2:=by
 unfold qm;rw[oy h,pW];simp[h]
theorem zu.two {base:Nat}{e:TypeId}{r:Value}(f:zu x base e r xs)(l:xs.length=n)(o:0<n)(m:n≤1048576):
  ∃g c,r=zg g n c∧ ∀j v,(xs.map (Value.int .u8))[j]?=some v→x.cell? (((zd g):Addr).add j)=some v:=by
 have p:=f.view (hi:=x.heap.size) zk (fun g h=>(f.lt g h).2);rcases f.2 with⟨_,h0⟩|⟨g,c,b,rfl,h,k,h1,h2,h3,i⟩
 ·omega
 ·refine⟨g,c,by rw[l],fun j v a=>?_⟩;rw[n9,ni];have d:b.toList[j]?=some v:=by
   rw[←i] at a;rw[oA] at a;split at a
   ·exact a
   ·cases a
  simp only[World.cell?,k];simpa using d
theorem gT (v:Int)(n:Nat):Byt (ZZ v n):=by
 induction n with
 |zero=>intro x hx;cases hx
 |succ n ih=>
  intro x hx;rcases oJ.1 hx with rfl|hx
  ·exact⟨pw _ zp,px _ zp⟩
  ·exact ih x hx
theorem qE (v n:Int):Byt (zx v n):=by
 unfold zx;split
 ·intro x a;cases a
 ·split
  ·intro x a;cases a
  ·exact gT _ _
end Go.Proofs.YthdeofoleiiibaaGreatDoor
