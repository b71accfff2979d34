import Derived.Test.YtacjklochmelfaaGreatDoorJTxn
import Derived.Test.YtacjklochmelfaaGreatDoorJOpenJ
import Derived.Test.YtacjklochmelfaaGreatDoorTxnImpl2
import Derived.WalkMore
import Derived.Test.YtacjklochmelfaaGreatDoorPutByt
import Derived.Test.YtacjklochmelfaaGreatDoorOkSup
import Derived.Test.YtacjklochmelfaaGreatDoorLwLogged
import Derived.Test.YtacjklochmelfaaGreatDoorCells2
namespace Go.Proofs.YtacjklochmelfaaGreatDoor
open Go.RowKit
set_option maxRecDepth 100000
set_option maxHeartbeats 16000000
theorem Tryz.infoTx:(Tryz.prog.info? 35).map (fun i=>(i.zero,i.size,i.bytes))=some (some (.agg #[za 0,zc,zc]),3,56):=by kernel_rfl
def TxC (t:Tx) (hv rv:Value):List Value:= [za t.seq,hv,rv]
structure qm (w:World)(base:Nat)(tv:Value)(ts:List Tx)(hs rs:List Value):Prop where
 row:w.ownsRow base 35 3 tv ts.length ((ts.zip (hs.zip rs)).flatMap fun z=>TxC z.1 z.2.1 z.2.2)
 hl:hs.length=ts.length
 rl:rs.length=ts.length
 el: ∀i,i<ts.length→qE w base (hs.getD i undef) (rs.getD i undef) (ts.getD i ⟨0,[],[]⟩)
theorem qm.nil (w:World)(base:Nat):qm w base (zc) [] [] []:=⟨⟨rfl,Or.inl ⟨rfl,rfl⟩⟩,rfl,rfl,fun i h=>absurd h (by simp)⟩
theorem qm.chg {w w':World}{base:Nat}{tv:Value}{ts:List Tx}{hs rs:List Value}(h:qm w base tv ts hs rs)(c:Chg 0 0 w w'):qm w' base tv ts hs rs:=
 ⟨zH h.row (zU.chg c (by omega)),h.hl,h.rl,fun i hi=>(h.el i hi).keep (fun j cur T _ _ hh=>(c.block j (gLt hh) (by omega)).trans hh)⟩
theorem qm.low {w:World}{base base':Nat}{tv:Value}{ts:List Tx}{hs rs:List Value}(h:qm w base tv ts hs rs)(hb:base'≤base):qm w base' tv ts hs rs:=by
 refine⟨⟨h.row.1,?_⟩,h.hl,h.rl,fun i hi=>(h.el i hi).low hb⟩;rcases h.row.2 with h2|⟨g,cap,cur,hv,hg,r⟩
 ·exact Or.inl h2
 ·exact Or.inr ⟨g,cap,cur,hv,by omega,r⟩
theorem adA (w:World)(o1 o2 o3 o4:Obj):((((w.alloc o1).alloc o2).alloc o3).alloc o4).heap.size=w.heap.size+4∧((((w.alloc o1).alloc o2).alloc o3).alloc o4).heap[w.heap.size]?=some o1∧
  ((((w.alloc o1).alloc o2).alloc o3).alloc o4).heap[w.heap.size+1]?=some o2∧((((w.alloc o1).alloc o2).alloc o3).alloc o4).heap[w.heap.size+1+1]?=some o3∧((((w.alloc o1).alloc o2).alloc o3).alloc o4).heap[w.heap.size+3]?=some o4:=by
 obtain⟨a1,a2,a3,a4⟩:=QW w o1 o2 o3;refine⟨by simp,?_,?_,?_,?_⟩
 ·rw[Below.heap_alloc _ _ _ (by omega)];exact a2
 ·rw[Below.heap_alloc _ _ _ (by omega)];exact a3
 ·rw[Below.heap_alloc _ _ _ (by omega)];exact a4
 ·rw[←a1];exact zh _ _
theorem JO {ops:Array Oper}{rest:List Oper}{o:Oper}{a:Act}{W:World}{Q:Exit→Act→World→Prop}{t:Tx}{hv rv:Value}(hgd:o.guard=none)(s x:Operand)
  (ho:o.op= .call {callee:= .builtin .append,args:= #[s,x],argTypes:= #[31,31]}) (base:Nat) (v:Value) (ts:List Tx) (hs rs:List Value) (hse:a.eval s=v) (hown:qm W base v ts hs rs) (hbase:base≤W.heap.size)
  (hx:a.eval x= .slice (some (zd W.heap.size)) 1 1) (hk:ts.length≤90000) (hd: ∃a l c,hv= .slice a l c) (hr: ∃a l c,rv= .slice a l c) (ht:qE W base hv rv t)
  (h: ∀g cp w',qm w' base (.slice (some (zd g)) (ts.length+1) cp) (ts++ [t]) (hs++ [hv]) (rs++ [rv])→Chg base w'.heap.size (W.alloc (.cells #[za t.seq,hv,rv] 35)) w'→(∀(j:Nat) (cur:Array Value) (T:TypeId),T≠35→W.heap[j]?=some (.cells cur T (0,0))→w'.heap[j]?=some (.cells cur T (0,0)))→wpList Tryz.prog ops Q rest (a.put o.dst (.slice (some (zd g)) (ts.length+1) cp)) w'):
  wpList Tryz.prog ops Q (o::rest) a (W.alloc (.cells #[za t.seq,hv,rv] 35)):=by
 refine wpList_plain hgd fun _ hK=>?_;have cA:Chg 0 0 W (W.alloc (.cells #[za t.seq,hv,rv] 35)):=Chg.alloc (Chg.refl 0 0 W) _;have hO:=hown.chg cA;obtain⟨i,hi,hz0,hz1,hz2⟩:=info_parts Tryz.infoTx;refine wp_append_own _ s x 31 ho base 35 i _ 3 56 Tryz.underlying31 hi hz0 hz1 hz2 rfl (by omega) v ts.length _ hse hO.row (zd W.heap.size) 1 1 (TxC t hv rv) hx ?_ ?_ ?_ (by unfold maxLen;omega) (by omega) (by simp;omega) ?_
 ·rfl
 ·intro j u hj;rw[Go.WideShapes.add_plain,Nat.zero_add];simp only[World.cell?,zh W _];simpa [TxC] using hj
 ·intro u hu;obtain⟨a,l,c,rfl⟩:=hd;obtain⟨a',l',c',rfl⟩:=hr;simp[TxC] at hu;rcases hu with rfl|rfl|rfl<;>rfl
 ·intro v' w' h1 h2 _;obtain⟨g',cap',e'⟩: ∃g cp,v'= .slice (some (zd g)) (ts.length+1) cp:=by
   rcases h1.2 with⟨_,h0⟩|⟨g',cap',cur,e',_⟩
   ·omega
   ·exact⟨g',cap',e'⟩
  subst e';have hk':=zU.grownE h2 hO.row;have hkw: ∀(j:Nat) (cur:Array Value) (T:TypeId),T≠35→W.heap[j]?=some (.cells cur T (0,0))→w'.heap[j]?=some (.cells cur T (0,0)):=fun j cur T hT hh=>hk' j cur T hT ((cA.block j (gLt hh) (by omega)).trans hh);refine hK _ _ (h g' cap' w' ⟨?_,by rw[List.length_append,List.length_append,hown.hl];rfl,by rw[List.length_append,List.length_append,hown.rl];rfl,fun i hi=>?_⟩ (Chg.ofGrown h2 (fun g hg hlt=>⟨(World.ownsRow.lt hO.row g hg).1,by have:=h2.size;omega⟩)) hkw)
  ·have e1:(hs++ [hv]).zip (rs++ [rv])=hs.zip rs++ [(hv,rv)]:=by rw[List.zip_append (by rw[hown.hl,hown.rl])];rfl
   have e2:(ts++ [t]).zip (hs.zip rs++ [(hv,rv)])=ts.zip (hs.zip rs)++ [(t,hv,rv)]:=by rw[List.zip_append (by rw[List.length_zip,hown.hl,hown.rl];omega)];rfl
   rw[List.length_append,e1,e2,List.flatMap_append];simpa using h1
  ·rw[List.length_append,List.length_singleton] at hi;by_cases hlt:i<ts.length
   ·have:=(hown.el i hlt).keep (fun j cur T _ hT hh=>hkw j cur T hT hh);have hh:=hown.hl;have hr':=hown.rl;simpa [List.getD_eq_getElem?_getD,List.getElem?_append_left,hlt,hh,hr'] using this
   ·obtain rfl:i=ts.length:=by omega
    have:=ht.keep (fun j cur T _ hT hh=>hkw j cur T hT hh);have a1:(hs++ [hv]).getD ts.length undef=hv:=by rw[←hown.hl];simp[List.getD_eq_getElem?_getD]
    have a2:(rs++ [rv]).getD ts.length undef=rv:=by rw[←hown.rl];simp[List.getD_eq_getElem?_getD]
    have a3:(ts++ [t]).getD ts.length ⟨0,[],[]⟩=t:=by simp[List.getD_eq_getElem?_getD]
    rw[a1,a2,a3];exact this
theorem abc (w:World)(p:Nat)(sz sq:Int):
  Calls Tryz.prog 31 #[.pointer (some (zd p)),.agg #[za sz,za 0,za sq]] w fun e w'=>e= .returned (zc)∧Chg 0 0 w w':=by
 have cA:Chg 0 0 w (w.alloc (.cells #[za sz,za 0,za sq] 45)):=Chg.alloc (Chg.refl 0 0 w) _;go_enter Tryz.func31,Tryz.ntmps31;go_wp2;go_step3;go_wp2
 try rw[Exit.noGoto_ret]
 go_ret;exact⟨rfl,cA⟩
theorem Nr: ∀(xs:List FB) (s:RS),(qa s xs).seen.length≤s.seen.length+xs.length:=by
 intro xs
 induction xs with
 |nil=>intro s;exact Nat.le_refl _
 |cons x r ih=>
  intro s;have e:(zy s x).1.seen.length=s.seen.length+1:=by
   unfold zy;split
   ·split<;>simp
   ·cases x using FB.el<;>simp
  show(if(zy s x).2=true then qa (zy s x).1 r else(zy s x).1).seen.length≤_;rw[List.length_cons];split
  ·have:=ih (zy s x).1;omega
  ·omega
theorem ZV.part {lo hi:Int}{xs:List FB}{q:Int}{ts:List Tx}(h:ZV lo hi xs q ts):(ts= []∧(TL (qa RS.zero xs).txn≠(qa RS.zero xs).seen∨(qa RS.zero xs).seen= []∨(qa RS.zero xs).seq≠q))∨
  ∃t r,ts=t::r∧qa RS.zero xs=⟨TL t,q,t.homes,t.revs,[]⟩∧t.seq=q∧jx t∧(∀x∈t.homes,lo≤x.1∧x.1≤hi)∧(∀x∈t.revs,lo≤x∧x≤hi)∧ZV lo hi (xs.drop (TL t).length) (q+1) r:=by
 cases ts with
 |nil=>exact Or.inl ⟨rfl,h⟩
 |cons t r=>exact Or.inr ⟨t,r,rfl,h⟩
structure ScI (w:World)(F:Nat→FB)(sz st:Nat)(lo hi sq:Int)(ts:List Tx)(x5 x6 x7 x8:Value)(wr:World):Prop where
 ex: ∃(k:Nat) (pre rest:List Tx) (hs rs:List Value),qm wr w.heap.size x5 pre hs rs∧x6=za ((((st+k) % sz:Nat):Int)+1)∧x7=za (sq+(pre.length:Int))∧x8=za ((sz-k:Nat):Int)∧k≤sz∧ts=pre++rest∧ZV lo hi (win F sz (st+k) (sz-k)) (sq+(pre.length:Int)) rest∧pre.length≤k
 ch:Chg 0 0 w wr
 hb:wr.heap[w.heap.size]?=some (.cells #[za sz,za ((st:Int)+1),za sq] 45 (0,0))
theorem NG (w:World){base p n sz:Nat}{d:Dsk}{F:Nat→FB}{sq:Int}{st:Nat}{ts:List Tx}{tL tM tK:TypeId}{vL vM vK:Value}(hD:Dev w base p d)(hL:jJ d n sz F ((st+1:Nat):Int) sq)(hS:ZV ((sz:Int)+2) ((n:Int)-1) (win F sz st sz) sq ts)(hq:sq≤4294867295)(hG:jl w tL tM tK vL vM vK)(hE:Zg w)(hM:Mag w)(hGw:8≤w.heap.size):
  Calls Tryz.prog 31 #[.pointer (some (zd p)),.agg #[za sz,za ((st:Int)+1),za sq]] w fun e w'=> ∃tv hs rs,e= .returned tv∧qm w' w.heap.size tv ts hs rs∧Chg 0 0 w w':=by
 have hbig:=hL.big;have hsb:=hL.sb;have cA:Chg 0 0 w (w.alloc (.cells #[za sz,za ((st:Int)+1),za sq] 45)):=Chg.alloc (Chg.refl 0 0 w) _;have zA:=zh w (.cells #[za sz,za ((st:Int)+1),za sq] 45);have sA:w.heap.size+1≤(w.alloc (.cells #[za sz,za ((st:Int)+1),za sq] 45)).heap.size:=by simp
 obtain⟨⟨k0,k1,k2⟩,_⟩:=tri zA;obtain⟨gD,qo,m,qcap,_,hp,hbx,_,rfl,_,_⟩:=hD.rows;have hdl:d.dur.length/64=n:=by rw[hL.dur];omega
 rw[hdl] at hbx;have hpl:=(gLt hbx);obtain⟨e0,e1,_,_⟩:=zn ((cA.block p hpl (by omega)).trans hbx);have hne:(((st:Int)+1)==0)=false:=by simp;omega
 have hst:st<sz:=by have:=hsb.1.2;omega
 have w1:IntKind.i64.wrap (1+(sz:Int))=(sz:Int)+1:=by rw[IntKind.wrap_i64];omega
 have w2:IntKind.i64.wrap ((sz:Int)+1+1)=(sz:Int)+2:=by rw[IntKind.wrap_i64];omega
 have w3:IntKind.i64.wrap ((n:Int)-1)=(n:Int)-1:=by rw[IntKind.wrap_i64];omega
 have HD:Hid (Dev w base p d):=hD;have HL:Hid (jJ d n sz F ((st+1:Nat):Int) sq):=hL;have HG:Hid (jl w tL tM tK vL vM vK):=hG;have HE:Hid (Zg w):=hE;have HM:Hid (Mag w):=hM;have HzA:Hid ((w.alloc (.cells #[za sz,za ((st:Int)+1),za sq] 45)).heap[w.heap.size]?=some (.cells #[za sz,za ((st:Int)+1),za sq] 45 (0,0))):=zA;have HcA:Hid (Chg 0 0 w (w.alloc (.cells #[za sz,za ((st:Int)+1),za sq] 45))):=cA;have HS:Hid (ZV ((sz:Int)+2) ((n:Int)-1) (win F sz st sz) sq ts):=hS
 clear hD hL hG hE hM hS zA cA hdl hbx;go_enter Tryz.func31,Tryz.ntmps31;go_wp2;go_step3;go_wp2;generalize w.alloc (.cells #[za sz,za ((st:Int)+1),za sq] 45)=wA at*;have cd:Chg 0 0 wA wA.drew:=Chg.drew (Chg.refl _ _ wA);go_quiet (fail);go_wp2;go_quiet (fail);go_wp2;go_step3;go_wp2;go_loopw [5,6,7,8] (fun x5 x6 x7 x8 wr=>ScI w F sz st ((sz:Int)+2) ((n:Int)-1) sq ts x5 x6 x7 x8 wr) (fun _ _ _ x8 _=>(intOf x8).toNat)
 case atStart=>
  refine⟨⟨0,[],ts,[],[],qm.nil _ _,?_,?_,?_,Nat.zero_le _,rfl,?_,Nat.le_refl _⟩,(HcA.out.drewN _).drewN _,HzA.out⟩
  ·rw[Nat.add_zero,Nat.mod_eq_of_lt hst]
  ·simp
  ·simp
  ·simpa using HS.out
 case round=>
  obtain⟨⟨k,pre,rest,hs,rs,hT,rfl,rfl,rfl,hk,hts,hR,hpk⟩,hch,hbb⟩:=hrel;have sW:=hch.size;have sW2:=(gLt hbb);have HB:Hid (wr.heap[w.heap.size]?=some (.cells #[za sz,za ((st:Int)+1),za sq] 45 (0,0))):=hbb;obtain⟨⟨c0,c1,c2⟩,_⟩:=tri HB.out;have HCr:Hid (Chg 0 0 w wr):=hch;have Hts:Hid (ts=pre++rest):=hts;have HRs:Hid (ZV ((sz:Int)+2) ((n:Int)-1) (win F sz (st+k) (sz-k)) (sq+(pre.length:Int)) rest):=hR
  have HT:Hid (qm wr w.heap.size u5 pre hs rs):=hT;have hx5: ∃xa xn xc,u5= .slice xa xn xc:=zx hT.row;obtain⟨xa,xn,xc,rfl⟩:=hx5;have hm:=Nat.mod_lt (st+k) (show 0<sz by omega);obtain⟨z1,z2,z3,z4,z5⟩:=adA wr (.cells #[.pointer (some (zd p))] 52) (.cells #[za ((((st+k) % sz:Nat):Int)+1)] 2) (.cells #[za ((sz-k:Nat):Int)] 2) (.cells #[za sz] 2);have cl:Chg 0 0 wr ((((wr.alloc (.cells #[.pointer (some (zd p))] 52)).alloc (.cells #[za ((((st+k) % sz:Nat):Int)+1)] 2)).alloc (.cells #[za ((sz-k:Nat):Int)] 2)).alloc (.cells #[za sz] 2)):=(((Chg.alloc (Chg.refl 0 0 wr) _).alloc _).alloc _).alloc _
  have hlf:=Vm wr p ((((st+k) % sz:Nat):Int)+1) ((sz-k:Nat):Int) (sz:Int);clear hT hts hR hch hbb;go_wp2_with fail;refine hlf.mono ?_;rintro e wl ⟨rfl,rfl⟩;clear hlf;generalize (((wr.alloc (.cells #[.pointer (some (zd p))] 52)).alloc (.cells #[za ((((st+k) % sz:Nat):Int)+1)] 2)).alloc (.cells #[za ((sz-k:Nat):Int)] 2)).alloc (.cells #[za sz] 2)=wl at*;have HCl:Hid (Chg 0 0 w wl):=HCr.out.trans cl;have hxok: ∀x∈win F sz ((st+k) % sz) (sz-k),x.ok:=fun x hx=>by
   obtain⟨i,hi,rfl⟩:=aaq (by omega) hx;exact HL.out.ok i hi
  have hRt:=Vy wl (HG.out.chg HCl.out (by omega)) (HE.out.chg HCl.out (by omega)) (HM.out.chg HCl.out (by omega)) hxok (by rw[QL];omega) (by have:=HCl.out.size;omega) (enters_of Tryz.func111 (by kernel_rfl) rfl)
   (acW wr.heap.size p base n sz ((st+k) % sz) (sz-k) d F _ sq wl (HD.out.chg0 HCl.out) HL.out hm (by omega) (Boxed.cell z2) (Boxed.cell z3) (Boxed.cell z4) (Boxed.cell z5))
  rw[adj] at hRt;have sl:=cl.size;clear z1 z2 z3 z4 z5 hxok;go_wp2_with fail;refine hRt.mono ?_;rintro e w2 ⟨hv,rv,c4,hres⟩;have s4:=c4.size;have HC2:Hid (Chg 0 0 w w2):=HCl.out.trans c4;have HT2:Hid (qm w2 w.heap.size (.slice xa xn xc) pre hs rs):=HT.out.chg (cl.trans c4);have HB2:Hid (w2.heap[w.heap.size]?=some (.cells #[za sz,za ((st:Int)+1),za sq] 45 (0,0))):=((cl.trans c4).block _ (by omega) (by omega)).trans HB.out
  clear hRt cl c4 HT HB HCr HCl c0 c1 c2;rcases HRs.out.part with⟨hr0,hno⟩|⟨t,rest',hr1,hrd,htq,htv,hth,htr,htn⟩;·
   have Hend:Hid (qm w2 w.heap.size (.slice xa xn xc) ts hs rs):=by rw[show Hid _=_ from rfl,Hts.out,hr0,List.append_nil];exact HT2.out
   rcases hres with⟨hTL,rfl,hOw⟩|⟨hTL,rfl⟩
   ·obtain⟨es,ho1,_,_,ho2,_⟩:=hOw;obtain⟨ha,hn,hc,rfl⟩:=ho1.slice;obtain⟨ra,rc,rfl⟩:=ho2.shape;generalize ((qa RS.zero (win F sz (st+k) (sz-k))).txn.revs).length=rn at*;have hno':(qa RS.zero (win F sz (st+k) (sz-k))).seen.length=0∨ ¬(qa RS.zero (win F sz (st+k) (sz-k))).seq=sq+(pre.length:Int):=by
     rcases hno with h|h|h
     ·exact absurd hTL h
     ·exact Or.inl (by rw[h];rfl)
     ·exact Or.inr h
    have HCe:Hid (∀o:Obj,Chg 0 0 w (w2.alloc o)):=fun o=>HC2.out.alloc o;have HTe:Hid (∀o:Obj,qm (w2.alloc o) w.heap.size (.slice xa xn xc) ts hs rs):=fun o=>Hend.out.chg (Chg.alloc (Chg.refl 0 0 w2) o);clear ho1 ho2 hno hTL Hend HC2 HT2 HB2;generalize (qa RS.zero (win F sz (st+k) (sz-k))).seen.length=ln at*;generalize (qa RS.zero (win F sz (st+k) (sz-k))).seq=sq' at*;by_cases hl0:ln=0
    ·subst hl0;clear hno';go_wp2;rw[Exit.noGoto_ret];go_ret;exact⟨_,hs,rs,rfl,HTe.out _,HCe.out _⟩
    ·have hsq: ¬sq'=sq+(pre.length:Int):=by rcases hno' with h|h;exact absurd h hl0;exact h
     have hl1:((ln:Int)==0)=false:=by simp;omega
     have hb2:(sq' !=(sq+(pre.length:Int)))=true:=by simpa using hsq
     clear hno' hsq;go_wp2;rw[Exit.noGoto_ret];go_ret;exact⟨_,hs,rs,rfl,HTe.out _,HCe.out _⟩
   ·have HCe:Hid (∀o:Obj,Chg 0 0 w (w2.alloc o)):=fun o=>HC2.out.alloc o;have HTe:Hid (∀o:Obj,qm (w2.alloc o) w.heap.size (.slice xa xn xc) ts hs rs):=fun o=>Hend.out.chg (Chg.alloc (Chg.refl 0 0 w2) o);clear hno hTL Hend HC2 HT2 HB2;go_wp2;rw[Exit.noGoto_ret];go_ret;exact⟨_,hs,rs,rfl,HTe.out _,HCe.out _⟩
  ·
   have htx:(qa RS.zero (win F sz (st+k) (sz-k))).txn=t:=by rw[hrd];cases t;simp only[RS.txn] at*;rw[htq]
   rcases hres with⟨hTL,rfl,hOw⟩|⟨hTL,_⟩
   case inr=>
    exact absurd (by rw[htx,hrd]) hTL
   rw[htx] at hOw
   obtain⟨hsv,hrv,hbyt,hcnt⟩:=hOw.view
   have hOw':=hOw
   obtain⟨es,ho1,ho3,_,ho2,hrl,hel⟩:=hOw'
   obtain⟨ha,hc,rfl⟩:=hsv.slice
   obtain⟨ra,rc,rfl⟩:=hrv.slice
   have hTLl:=(JR hbyt).1
   have hTp:1≤(TL t).length:=by rw[←Y8 htv,List.length_map];have:=aao t;cases h:ZF t with|nil=>exact absurd h this|cons _ _=>simp
   have hlnk:(TL t).length≤sz-k:=by
    have h1:=(Nr (win F sz (st+k) (sz-k)) RS.zero);rw[hrd,QL] at h1;simpa [RS.zero] using h1
   rw[hrd]
   have Hnext:Hid (ZV ((sz:Int)+2) ((n:Int)-1) (win F sz (st+(k+(TL t).length)) (sz-(k+(TL t).length))) (sq+(((pre++ [t]).length:Nat):Int)) rest'):=by
    rw[acI _ _ _ _ _ hlnk] at htn;rw[show st+(k+(TL t).length)=st+k+(TL t).length by omega,show sz-(k+(TL t).length)=sz-k-(TL t).length by omega,List.length_append,List.length_singleton];rw[show sq+((pre.length+1:Nat):Int)=sq+(pre.length:Int)+1 by omega];exact htn
   have HOw:Hid (qE w2 wl.heap.size (.slice ha t.homes.length hc) (.slice ra t.revs.length rc) t):=hOw
   have Hts2:Hid (ts=(pre++ [t])++rest'):=by show _=_;rw[Hts.out,hr1];simp
   have HPv:Hid (qF w2 wl.heap.size w2.heap.size (.slice ha t.homes.length hc) t.homes):=hsv
   have HRv:Hid (zr w2 wl.heap.size w2.heap.size .i64 (.slice ra t.revs.length rc) t.revs):=hrv
   have hrl':=hrl
   have hhl:t.homes.length≤10000:=by rw[←ho3,List.length_map];exact hel
   have Htq:Hid (t.seq=sq+(pre.length:Int)):=htq
   have Hth:Hid (∀x∈t.homes,(sz:Int)+2≤x.1∧x.1≤(n:Int)-1):=hth
   have Htr:Hid (∀x∈t.revs,(sz:Int)+2≤x∧x≤(n:Int)-1):=htr
   clear ho1 ho2 ho3 hOw hsv hrv htn hrd htx hTL htv hbyt hr1 HRs Hts hcnt hel htq hth htr
   obtain⟨ln,hln⟩: ∃ln,ln=(TL t).length:=⟨_,rfl⟩
   have Hln:Hid (ln=(TL t).length):=hln
   rw[←hln] at hTp hlnk hTLl
   dsimp only
   rw[←hln]
   clear hln
   have hl1:((ln:Int)==0)=false:=by simp;omega
   have hb2:((sq+(pre.length:Int)) !=(sq+(pre.length:Int)))=false:=by simp
   have cZ:Chg 0 0 w2 (w2.alloc (.cells #[za (sq+(pre.length:Int)),.slice ha t.homes.length hc,.slice ra t.revs.length rc] 35)):=Chg.alloc (Chg.refl 0 0 w2) _
   have zZ:=zh w2 (.cells #[za (sq+(pre.length:Int)),.slice ha t.homes.length hc,.slice ra t.revs.length rc] 35)
   go_wp2
   have HzZ:Hid ((w2.alloc (.cells #[za (sq+(pre.length:Int)),.slice ha t.homes.length hc,.slice ra t.revs.length rc] 35)).heap[w2.heap.size]?=some (.cells #[za (sq+(pre.length:Int)),.slice ha t.homes.length hc,.slice ra t.revs.length rc] 35 (0,0))):=zZ
   have HcZ:Hid (Chg 0 0 w2 (w2.alloc (.cells #[za (sq+(pre.length:Int)),.slice ha t.homes.length hc,.slice ra t.revs.length rc] 35))):=cZ
   have sZ:=cZ.size
   have hlZ:=(gLt zZ)
   clear zZ cZ
   generalize w2.alloc (.cells #[za (sq+(pre.length:Int)),.slice ha t.homes.length hc,.slice ra t.revs.length rc] 35)=W3 at*
   go_loopw [57] (fun i wx=> ∃j:Nat,j≤t.homes.length∧i=za j∧Chg 0 0 W3 wx) (fun i _=>t.homes.length-(intOf i).toNat)
   case atStart=>exact⟨0,Nat.zero_le _,rfl,Chg.refl 0 0 W3⟩
   case round=>
    rename_i wo _ _ _ _;obtain⟨j,hj,rfl,hcj⟩:=hrel;by_cases hlt:j<t.homes.length
    ·have hpv:=HPv.out.chg (HcZ.out.trans hcj) (by omega);obtain⟨ao,cap,e,_,_,hcell⟩:=hpv;obtain⟨rfl,_,rfl⟩:ha=ao∧True∧hc=cap:=by simpa using e
     obtain⟨b,off,rfl,hcel2⟩: ∃b off,ha=some ⟨b,off,none⟩∧ ∀i,i<t.homes.length→ ∃dv,wr.cell? ⟨b,off+i*2,none⟩=some (za (t.homes.getD i (0,[])).1)∧wr.cell? ⟨b,off+i*2+1,none⟩=some dv∧zr wr wl.heap.size w2.heap.size .u8 dv (t.homes.getD i (0,[])).2:=by
      rcases hcell with h|⟨b,off,e,_,_,h⟩
      ·rw[h] at hlt;simp at hlt
      ·exact⟨b,off,e,h⟩
     obtain⟨dv,q0,q1,hvw⟩:=hcel2 j hlt;obtain⟨da,dc,rfl⟩:=hvw.slice;have hmem:t.homes.getD j (0,[])∈t.homes:=by rw[List.getD_eq_getElem?_getD,List.getElem?_eq_getElem hlt];exact List.getElem_mem hlt
     obtain⟨hw1,hw2⟩:=Hth.out _ hmem;generalize (t.homes.getD j (0,[])).1=bk at*;generalize (t.homes.getD j (0,[])).2.length=dl at*;have hij:(j:Int)<(t.homes.length:Int):=by omega
     have Hcj:Hid (∀o:Obj,Chg 0 0 W3 (wr.alloc o)):=fun o=>hcj.alloc o;have hIw:=fun W=>qx W bk ((sz:Int)+2) ((n:Int)-1);rw[decide_eq_true hw1,decide_eq_true hw2] at hIw;clear hcell hcel2 hvw hcj e hmem;go_wp2_with (go_at_call 33;refine(hIw _).mono ?_;rintro e wy ⟨rfl,rfl⟩);go_roundw
     case rel=>exact⟨j+1,hlt,by congr 1,Hcj.out _⟩
     case measure=>simp[intOf];omega
    ·obtain rfl:j=t.homes.length:=by omega
     have hij: ¬((t.homes.length:Int)<(t.homes.length:Int)):=by omega
     obtain⟨⟨t0,t1,t2⟩,_⟩:=tri ((hcj.block _ hlZ (by omega)).trans HzZ.out);have HW4:Hid (Chg 0 0 W3 wr):=hcj;clear hcj;go_wp2;have s4:=HW4.out.size;go_loopw [71] (fun i wx=> ∃j:Nat,j≤t.revs.length∧i=za j∧Chg 0 0 W3 wx) (fun i _=>t.revs.length-(intOf i).toNat)
     case atStart=>exact⟨0,Nat.zero_le _,rfl,HW4.out⟩
     case round=>
      obtain⟨j,hj2,rfl,hcj⟩:=hrel;by_cases hlt:j<t.revs.length
      ·have hpv:=HRv.out.chg (HcZ.out.trans hcj) (by omega);obtain⟨ao,cap,e,_,_,hcell⟩:=hpv;obtain⟨rfl,_,rfl⟩:ra=ao∧True∧rc=cap:=by simpa using e
       obtain⟨b,off,rfl,hcel2⟩: ∃b off,ra=some ⟨b,off,none⟩∧ ∀i,i<t.revs.length→wr.cell? ⟨b,off+i,none⟩=some (za (t.revs.getD i 0)):=by
        rcases hcell with h|⟨b,off,e,_,_,h⟩
        ·rw[h] at hlt;simp at hlt
        ·exact⟨b,off,e,h⟩
       have q0:=hcel2 j hlt;have hmem:t.revs.getD j 0∈t.revs:=by rw[List.getD_eq_getElem?_getD,List.getElem?_eq_getElem hlt];exact List.getElem_mem hlt
       obtain⟨hw1,hw2⟩:=Htr.out _ hmem;generalize t.revs.getD j 0=bk at*;have hij2:(j:Int)<(t.revs.length:Int):=by omega
       have Hcj:Hid (Chg 0 0 W3 wr):=hcj;have hIw:=fun W=>qx W bk ((sz:Int)+2) ((n:Int)-1);rw[decide_eq_true hw1,decide_eq_true hw2] at hIw;clear hcell hcel2 hcj e hmem;go_wp2_with (go_at_call 33;refine(hIw _).mono ?_;rintro e wy ⟨rfl,rfl⟩);go_roundw
       case rel=>exact⟨j+1,hlt,by congr 1,Hcj.out⟩
       case measure=>simp[intOf];omega
      ·obtain rfl:j=t.revs.length:=by omega
       have hij2: ¬((t.revs.length:Int)<(t.revs.length:Int)):=by omega
       obtain⟨⟨t0,t1,t2⟩,_⟩:=tri ((hcj.block _ hlZ (by omega)).trans HzZ.out);have HW5:Hid (Chg 0 0 W3 wr):=hcj;have c5:=HcZ.out.trans hcj;have HT5:Hid (qm wr w.heap.size (.slice xa xn xc) pre hs rs):=HT2.out.chg c5;have HO5:Hid (qE wr w.heap.size (.slice ha t.homes.length hc) (.slice ra t.revs.length rc) t):=(HOw.out.keep (fun j cur T _ _ hh=>(c5.block j (gLt hh) (by omega)).trans hh)).low (by omega)
       have HC5:Hid (Chg 0 0 w wr):=HC2.out.trans c5;have HB5:Hid (wr.heap[w.heap.size]?=some (.cells #[za sz,za ((st:Int)+1),za sq] 45 (0,0))):=(c5.block _ (by omega) (by omega)).trans HB2.out;have s5:=c5.size;clear hcj c5;have Htt:Hid ((⟨sq+(pre.length:Int),t.homes,t.revs⟩:Tx)=t):=by show _=_;rw[←Htq.out]
       go_upto_region 19 with(refine JO (t:=⟨sq+(pre.length:Int),t.homes,t.revs⟩) rfl (.tmp 81) (.tmp 83) rfl w.heap.size (.slice xa xn xc) pre hs rs rfl HT5.out (by omega) rfl (by omega) ⟨_,_,_,rfl⟩ ⟨_,_,_,rfl⟩ (by rw[Htt.out];exact HO5.out) ?_;intro g6 cp6 w6 hT6 c6 hk6);rw[Htt.out] at hT6;have hb6:=hk6 w.heap.size _ _ (by decide) HB5.out;obtain⟨⟨d0,d1,d2⟩,_⟩:=tri hb6;have HC6:Hid (Chg 0 0 w w6):=by
        have cA6:Chg 0 0 w (wr.alloc (.cells #[za (⟨sq+(pre.length:Int),t.homes,t.revs⟩:Tx).seq,.slice ha t.homes.length hc,.slice ra t.revs.length rc] 35)):=HC5.out.alloc _;exact cA6.step c6 (by omega)
       have HB6:Hid (w6.heap[w.heap.size]?=some (.cells #[za sz,za ((st:Int)+1),za sq] 45 (0,0))):=hb6;have HT6:Hid (qm w6 w.heap.size (.slice (some (zd g6)) (pre.length+1) cp6) (pre++ [t]) (hs++ [.slice ha t.homes.length hc]) (rs++ [.slice ra t.revs.length rc])):=hT6;have hPf:=jo w6 (sz:Int) ((((st+k) % sz:Nat):Int)+1) (ln:Int) (by omega) (by omega) (by omega) (by omega) (by omega) (by omega);have Hpl:Hid (qk sz ((((st+k) % sz:Nat):Int)+1) (ln:Int)=(((st+(k+ln)) % sz:Nat):Int)+1):=by
        show _=_;unfold qk;rw[show(((st+k) % sz:Nat):Int)+1-1+(ln:Int)=(((st+k) % sz+ln:Nat):Int) by omega];have e:((((st+k) % sz+ln:Nat):Int)) % (sz:Int)=((((st+k) % sz+ln) % sz:Nat):Int):=rfl;rw[e,Nat.mod_add_mod,Nat.add_assoc]
       rw[Hpl.out] at hPf;have hwq:IntKind.i64.wrap (sq+(pre.length:Int)+1)=sq+(pre.length:Int)+1:=by rw[IntKind.wrap_i64];omega
       have hwl:IntKind.i64.wrap (((sz-k:Nat):Int)-(ln:Int))=((sz-(k+ln):Nat):Int):=by rw[IntKind.wrap_i64];omega
       clear hT6 c6 hk6 hb6 HT5 HO5 HC5 HB5 HW5 Hpl;go_wp2_with (go_at_call 28;refine hPf.mono ?_;rintro e wy ⟨rfl,rfl⟩);go_roundw
       case rel=>
        have e7:sq+(pre.length:Int)+1=sq+(((pre++ [t]).length:Nat):Int):=by rw[List.length_append,List.length_singleton];omega
        refine⟨⟨k+ln,pre++ [t],rest',_,_,HT6.out,?_,?_,rfl,by omega,Hts2.out,?_,by rw[List.length_append,List.length_singleton];omega⟩,HC6.out,HB6.out⟩
        ·rfl
        ·rw[e7]
        ·rw[Hln.out];exact Hnext.out
       case measure=>simp[intOf];omega
def UU (w:World) (base:Nat) (tv:Value) (ts:List Tx):Prop:= ∃hs rs,qm w base tv ts hs rs
theorem NF (w:World){lo hi n sz:Nat}{a:Value}{d:Dsk}{F:Nat→FB}{st:Nat}{sq:Int}{ts:List Tx}{tL tM tK:TypeId}{vL vM vK:Value}(h1:ZU w lo hi a d)(hL:jJ d n sz F st sq)(hS:(st=0∧ts= [])∨(st≠0∧ZV ((sz:Int)+2) ((n:Int)-1) (win F sz (st-1) sz) sq ts))(hq:sq≤4294867295)(hG:jl w tL tM tK vL vM vK)(hE:Zg w)(hM:Mag w)(hGw:8≤w.heap.size):
  Calls Tryz.prog 14 #[a] w fun e w'=> ∃tv,e= .returned (.agg #[za 0,za sz,za st,za sq,tv])∧UU w' w.heap.size tv ts∧Chg 0 0 w w':=by
 have d0:=h1;obtain⟨dv,pv,rfl,v1,p1⟩:=h1;obtain⟨ao,cap,rfl,_⟩:=v1;obtain⟨po,pcap,rfl,_⟩:=p1;obtain⟨z1,z2,z3⟩:=zN w (.cells #[.slice ao d.dur.length cap,.slice po d.pend.length pcap] 26) (.cells #[za 0,za 0,za 0,za 0,zc] 47);have cA:Chg 0 0 w ((w.alloc (.cells #[.slice ao d.dur.length cap,.slice po d.pend.length pcap] 26)).alloc (.cells #[za 0,za 0,za 0,za 0,zc] 47)):=(Chg.alloc (Chg.refl 0 0 w) _).alloc _
 have hO:=ace _ (d0.chg cA (by omega)) hL hq (hG.chg cA (by omega));have HS:Hid (∀(W:World) (base p:Nat),Chg 0 0 w W→Dev W base p d→Calls Tryz.prog 31 #[.pointer (some (zd p)),.agg #[za sz,za st,za sq]] W fun e w'=> ∃tv hs rs,e= .returned tv∧qm w' W.heap.size tv ts hs rs∧Chg 0 0 W w'):=by
  intro W base p hW hD;rcases hS with⟨rfl,rfl⟩|⟨h0,hS⟩
  ·refine(abc W p (sz:Int) sq).mono ?_;rintro e w' ⟨rfl,hc⟩;exact⟨_,[],[],rfl,qm.nil _ _,hc⟩
  ·obtain⟨st',rfl⟩: ∃st',st=st'+1:=⟨st-1,by omega⟩;rw[Nat.add_sub_cancel] at hS;have:=NG W hD hL hS hq (hG.chg hW (by omega)) (hE.chg hW (by omega)) (hM.chg hW (by omega)) (by have:=hW.size;omega);exact this
 obtain⟨b0,b1,_,_⟩:=zn z2;clear hL hG d0 hS hE hM;go_enter Tryz.func14,Tryz.ntmps14;go_wp2_with fail;generalize (w.alloc (.cells #[.slice ao d.dur.length cap,.slice po d.pend.length pcap] 26)).alloc (.cells #[za 0,za 0,za 0,za 0,zc] 47)=wA at*;have y1:wA.heap.size≤w.heap.size+2:=by omega
 have y2:w.heap.size+2≤wA.heap.size:=by omega
 clear z1;refine hO.mono ?_;rintro e w1 ⟨p,rfl,hD1,c1⟩;have s1:=c1.size;have zB:=zh w1 (.cells #[za 0,za 0,za 0] 45);have cB:Chg 0 0 w1 (w1.alloc (.cells #[za 0,za 0,za 0] 45)):=Chg.alloc (Chg.refl 0 0 w1) _;have sB:=cB.size;go_upto_region 2 with(refine wpList_store_row rfl 45 (.tmp 4) (.tmp 10) rfl rfl w1.heap.size rfl [za sz,za st,za sq] [za 0,za 0,za 0] 45 rfl zB rfl (by kernel_rfl) (by simp[Value.oneCell']) ?_;intro w2 hb2 hc2)
 have s2:=hc2.size;have c2:=cB.step hc2 (by omega);have hlt2:=(gLt hb2);have HD2:Hid (Dev w2 wA.heap.size p d):=hD1.chg0 c2;have Hz2:Hid (w2.drew.heap[w.heap.size+1]?=some (.cells (List.toArray [za 0,za 0,za 0,za 0,zc]) 47 (0,0))):=((c1.trans c2).block _ (by omega) (by omega)).trans z3;have HC2:Hid (Chg 0 0 w w2):=(cA.trans c1).trans c2;have HSf:Hid ((fun w':World=>w'.heap[w1.heap.size]?=some (.cells (List.toArray [za sz,za st,za sq]) 45 (0,0))) w2.drew):=hb2
 clear hO hD1 c1 cA z2 z3 b0 b1 zB cB hc2 c2 hb2;go_wp2;refine zp (fun w':World=>w'.heap[w1.heap.size]?=some (.cells (List.toArray [za sz,za st,za sq]) 45 (0,0))) (by kernel_rfl) ?_;have hSc:=HS.out w2.drew wA.heap.size p HC2.out.drew (HD2.out.chg0 (Chg.drew (Chg.refl 0 0 w2)));have HCd:Hid _:=HC2.out.drew;have sd:w2.heap.size≤w2.drew.heap.size:=Nat.le_refl _;clear HS HC2 HD2;generalize w2.drew=X at*
 refine hTk 0 (.agg #[za sz,za st,za sq]) rfl (fun w' hw'=>by obtain⟨⟨h0,h1,h2⟩,_⟩:=tri hw';go_simp) HSf.out ?_;go_simp;refine hTk 1 (.pointer (some (zd p))) rfl (fun w' hw'=>by go_simp) HSf.out ?_;go_simp;refine hTk 2 (.agg #[za sz,za st,za sq]) rfl (fun w' hw'=>by obtain⟨⟨h0,h1,h2⟩,_⟩:=tri hw';go_simp) HSf.out ?_;go_simp;refine zg 3 rfl rfl (by kernel_rfl) ?_;refine zl 31 #[.pointer (some (zd p)),.agg #[za sz,za st,za sq]] (by first|kernel_rfl|go_simp) hSc ?_
 rintro e X2 ⟨tv,hs,rs,rfl,hT,c4⟩;obtain⟨xa,xn,xc,rfl⟩:=zx hT.row;have s4:=c4.size;have HS2:Hid _:=(c4.block _ (by omega) (by omega)).trans HSf.out;have Hz4:Hid (X2.heap[w.heap.size+1]?=some (.cells (List.toArray [za 0,za 0,za 0,za 0,zc]) 47 (0,0))):=(c4.block _ (by omega) (by omega)).trans Hz2.out;have HC4:Hid _:=HCd.out.trans c4;have HT4:Hid _:=hT;refine⟨_,rfl,HS2.out,?_⟩;clear c4 hT hSc;go_simp
 refine hTk 4 (.agg #[za 0,za sz,za st,za sq,.slice xa xn xc]) rfl (fun w' hw'=>by go_simp) HS2.out ?_;go_simp;refine zg 5 rfl rfl (by kernel_rfl) ?_;refine wp_store_row 47 (.tmp 2) (.tmp 20) rfl rfl (w.heap.size+1) rfl [za 0,za sz,za st,za sq,.slice xa xn xc] [za 0,za 0,za 0,za 0,zc] 47 rfl Hz4.out rfl (by kernel_rfl) (by simp[Value.oneCell']) ?_;intro X4 r4 c6;have HS4:Hid _:=(c6.block _ (by omega) (by omega)).trans HS2.out
 have HC6:Hid _:=HC4.out.step c6 (by omega);have HT6:Hid (qm X4 w.heap.size (.slice xa xn xc) ts hs rs):=by
  have hT:=HT4.out;have K: ∀(j:Nat) (cur:Array Value) (T:TypeId),X.heap.size≤j→X2.heap[j]?=some (.cells cur T (0,0))→X4.heap[j]?=some (.cells cur T (0,0)):=fun j cur T hj hh=>(c6.block j (gLt hh) (by omega)).trans hh;exact qm.low ⟨zH hT.row (fun j cur hj hh=>K j cur _ hj hh),hT.hl,hT.rl,fun i hi=>(hT.el i hi).keep (fun j cur T hj _ hh=>K j cur T hj hh)⟩ (by have:=HCd.out.size;omega)
 have Hr4:Hid _:=r4;refine⟨HS4.out,zt (by kernel_rfl) (NoPanic.normal ?_)⟩;clear r4 c6;go_wp2;have hl1:(loadVar 47 (zd (w.heap.size+1))).run Tryz.prog X4= .ok (.agg (List.toArray [za 0,za sz,za st,za sq,.slice xa xn xc])) X4:=run_loadVar_mid _ _ _ _ [za 0,za sz,za st,za sq,.slice xa xn xc] _ (zj Hr4.out) Tryz.underlying47 rfl (by kernel_rfl);exact bodyPost_ret (zu Tryz.results14 rfl hl1) rfl ⟨_,rfl,⟨hs,rs,HT6.out⟩,HC6.out⟩
theorem Xo (w:World){lo hi lo' hi':Nat}{a b:Value}{xs:List Int}(h1:zr w lo hi .u8 a xs)(h2:zr w lo' hi' .u8 b xs):
  Calls Tryz.prog 32 #[a,b] w fun e w'=>e= .returned (.bool true)∧w'=w:=by
 have c1:=h1.str;have c2:=h2.str;obtain⟨ao,cap,rfl,_⟩:=h1;obtain⟨bo,cap',rfl,_⟩:=h2;generalize strOfNums xs=s at*;go_enter Tryz.func32,Tryz.ntmps32;go_wp2;go_ret;exact⟨rfl,rfl⟩
theorem ad0 (ts:List Tx): ∀(hs rs:List Value) (i:Nat),hs.length=ts.length→rs.length=ts.length→i<ts.length→
  ((ts.zip (hs.zip rs)).flatMap fun z=>TxC z.1 z.2.1 z.2.2)[i*3]?=some (za (ts.getD i ⟨0,[],[]⟩).seq)∧((ts.zip (hs.zip rs)).flatMap fun z=>TxC z.1 z.2.1 z.2.2)[i*3+1]?=some (hs.getD i undef)∧((ts.zip (hs.zip rs)).flatMap fun z=>TxC z.1 z.2.1 z.2.2)[i*3+2]?=some (rs.getD i undef):=by
 induction ts with
 |nil=>intro hs rs i _ _ h;simp at h
 |cons t ts ih=>
  intro hs rs i h1 h2 hi;obtain⟨a,hs,rfl⟩: ∃a l,hs=a::l:=by cases hs with|nil=>simp at h1|cons a l=>exact⟨a,l,rfl⟩
  obtain⟨b,rs,rfl⟩: ∃a l,rs=a::l:=by cases rs with|nil=>simp at h2|cons a l=>exact⟨a,l,rfl⟩
  rw[List.zip_cons_cons,List.zip_cons_cons,List.flatMap_cons]
  cases i with
  |zero=>simp[TxC]
  |succ i=>
   have:=ih hs rs i (by simpa using h1) (by simpa using h2) (by simpa using hi);rw[show(i+1)*3=i*3+3 by omega];simpa [TxC] using this
theorem qm.at {w:World}{base:Nat}{tv:Value}{ts:List Tx}{hs rs:List Value}(h:qm w base tv ts hs rs): ∃a c,tv= .slice a ts.length c∧(0<ts.length→ ∃g,a=some (zd g)∧ ∀i,i<ts.length→w.cell? ⟨g,i*3,none⟩=some (za (ts.getD i ⟨0,[],[]⟩).seq)∧w.cell? ⟨g,i*3+1,none⟩=some (hs.getD i undef)∧w.cell? ⟨g,i*3+2,none⟩=some (rs.getD i undef)):=by
 have h1:=h.row;rcases h1.2 with⟨rfl,h0⟩|⟨g,cap,cur,rfl,hg,hh,hc,hm,_⟩
 ·exact⟨none,0,by rw[h0],fun h=>by omega⟩
 ·refine⟨_,_,rfl,fun _=>⟨g,rfl,fun i hi=>?_⟩⟩;obtain⟨a,b,c⟩:=ad0 ts hs rs i h.hl h.rl hi;have e:=h1.1;exact⟨by rw[World.ownsRow.cellAt h1 (i*3) (by omega)];exact a,by rw[World.ownsRow.cellAt h1 (i*3+1) (by omega)];exact b,by rw[World.ownsRow.cellAt h1 (i*3+2) (by omega)];exact c⟩
theorem qm.seen {w:World}{base:Nat}{tv:Value}{ts:List Tx}{hs rs:List Value}(h:qm w base tv ts hs rs){i:Nat}(hi:i<ts.length):jI w base w.heap.size (.agg #[za (ts.getD i ⟨0,[],[]⟩).seq,hs.getD i undef,rs.getD i undef]) (ts.getD i ⟨0,[],[]⟩)∧(∀x∈(ts.getD i ⟨0,[],[]⟩).homes,Byt x.2)∧Z3 (ts.getD i ⟨0,[],[]⟩)≤1000000:=by
 obtain⟨a,b,c,d⟩:=(h.el i hi).view;exact⟨⟨_,_,rfl,a,b⟩,c,d⟩
theorem adF {bs:List (List Int)}(h: ∀b∈bs,b.length=64):bs.flatten.length=64*bs.length:=by
 induction bs with
 |nil=>rfl
 |cons b r ih=>
  rw[List.flatten_cons,List.length_append,h b (by simp),ih (fun x hx=>h x (by simp[hx])),List.length_cons];omega
structure SmI (w:World)(n:Nat)(x5:Value)(wr:World):Prop where
 ex: ∃k:Nat,x5=za k∧k≤n∧Chg 0 0 w wr
theorem XL {w:World}{ba bb:Nat}{av bv:Value}{ts:List Tx}(ha:UU w ba av ts)(hb:UU w bb bv ts)(hv: ∀t∈ts,jx t)(hn:ts.length≤1000):
  Calls Tryz.prog 15 #[av,bv] w fun e w'=>e= .returned (.bool true)∧Chg 0 0 w w':=by
 obtain⟨hs,rs,rA⟩:=ha;obtain⟨hs',rs',rB⟩:=hb;obtain⟨aa,ac,rfl,hA⟩:=rA.at;obtain⟨ba',bc,rfl,hB⟩:=rB.at;clear hA hB;obtain⟨n,Hn⟩: ∃n,Hid (n=ts.length):=⟨_,rfl⟩;rw[←Hn.out] at rA rB hn⊢;have RA:Hid (qm w ba (.slice aa n ac) ts hs rs):=rA;have RB:Hid (qm w bb (.slice ba' n bc) ts hs' rs'):=rB;have HV:Hid (∀t∈ts,jx t):=hv;clear rA rB hv;go_enter Tryz.func15,Tryz.ntmps15;go_wp2;go_loopw [5] (fun x5 wr=>SmI w n x5 wr) (fun x5 _=>n-(intOf x5).toNat)
 case atStart=>exact⟨⟨0,rfl,Nat.zero_le _,Chg.refl _ _ _⟩⟩
 case round=>
  obtain⟨k,rfl,hkn,hc⟩:=hrel.ex;clear hrel;by_cases h1:k<n
  ·have hkp:k<ts.length:=by have:=Hn.out;omega
   have e1:decide ((k:Int)<(n:Int))=true:=decide_eq_true (by omega);have hkL:(k:Int)<(n:Int):=by omega
   have rA':=RA.out.chg hc;have rB':=RB.out.chg hc;obtain⟨ax,ay,e,hA1⟩:=rA'.at;obtain⟨g,hax,hA2⟩:=hA1 (by omega);simp only[Value.slice.injEq] at e;obtain⟨e3,-,e4⟩:=e;obtain rfl:aa=some (zd g):=e3.trans hax;obtain⟨bx,by',e',hB1⟩:=rB'.at;obtain⟨g',hbx,hB2⟩:=hB1 (by omega);simp only[Value.slice.injEq] at e';obtain⟨e5,-,e6⟩:=e';obtain rfl:ba'=some (zd g'):=e5.trans hbx;obtain⟨a0,a1,a2⟩:=hA2 k hkp;have HB2:Hid (wr.cell? ⟨g',k*3,none⟩=some (za (ts.getD k ⟨0,[],[]⟩).seq)∧wr.cell? ⟨g',k*3+1,none⟩=some (hs'.getD k undef)∧wr.cell? ⟨g',k*3+2,none⟩=some (rs'.getD k undef)):=hB2 k hkp
   clear hA1 hA2 hB1 hB2 e3 e4 e5 e6 hax hbx;obtain⟨tA,byA,cA⟩:=rA'.seen hkp;obtain⟨tB,byB,cB⟩:=rB'.seen hkp;have hvk:jx (ts.getD k ⟨0,[],[]⟩):=HV.out _ (by rw[List.getD_eq_getElem?_getD,List.getElem?_eq_getElem hkp];exact List.getElem_mem _);have HtA:Hid (jI wr ba wr.heap.size (.agg #[za (ts.getD k ⟨0,[],[]⟩).seq,hs.getD k undef,rs.getD k undef]) (ts.getD k ⟨0,[],[]⟩)):=tA;have HtB:Hid (qm wr bb (.slice (some (zd g')) n bc) ts hs' rs'):=rB'
   have Hby:Hid (∀x∈(ts.getD k ⟨0,[],[]⟩).homes,Byt x.2):=byA;clear tA tB rA' rB' byA byB cB;obtain⟨t,Ht⟩: ∃t,Hid (t=ts.getD k ⟨0,[],[]⟩):=⟨_,rfl⟩;obtain⟨hvA,HhA⟩: ∃v,Hid (v=hs.getD k undef):=⟨_,rfl⟩;obtain⟨rvA,HrA⟩: ∃v,Hid (v=rs.getD k undef):=⟨_,rfl⟩;obtain⟨hvB,HhB⟩: ∃v,Hid (v=hs'.getD k undef):=⟨_,rfl⟩;obtain⟨rvB,HrB⟩: ∃v,Hid (v=rs'.getD k undef):=⟨_,rfl⟩;rw[←Ht.out,←HhA.out,←HrA.out] at HtA;rw[←Ht.out] at a0 Hby hvk cA
   rw[←HhA.out] at a1;rw[←HrA.out] at a2;rw[←Ht.out,←HhB.out,←HrB.out] at HB2;obtain⟨L,HL⟩: ∃L,Hid (L=64*(TL t).length):=⟨_,rfl⟩;have hL:64≤L∧L≤100000:=by have:=HL.out;have:=EV (qz hvk);have:=(JR Hby.out).1;omega
   have hL0:((L:Int)==0)=false:=by simp;omega
   go_wp2_with fail;refine(jL wr (by omega) (Nat.le_refl _) Hby.out HtA.out).mono ?_;rintro e w2 ⟨g2,c2,rfl,o2,ch2⟩;rw[←HL.out] at o2⊢;have hfl:(TL t).flatten.length=L:=by rw[adF (JR Hby.out).2,←HL.out]
   have V2:Hid (zr w2 wr.heap.size w2.heap.size .u8 (.slice (some (zd g2)) L c2) (TL t).flatten):=o2.view (by omega) (fun g hg=>(o2.lt g hg).2);have Hfl:Hid ((TL t).flatten.length=L):=hfl;have Hc2:Hid (Chg 0 0 wr w2):=ch2;have rB2:=HtB.out.chg ch2;obtain⟨tB,byB,cB⟩:=rB2.seen hkp;rw[←Ht.out,←HhB.out,←HrB.out] at tB;obtain⟨bx,by',e',hB1⟩:=rB2.at;obtain⟨g3,hbx,hB2⟩:=hB1 (by omega);simp only[Value.slice.injEq] at e'
   obtain⟨e5,-,e6⟩:=e';obtain rfl:g'=g3:=by have:=e5.trans hbx;simpa using this
   obtain⟨b0,b1,b2⟩:=hB2 k hkp;rw[←Ht.out] at b0;rw[←HhB.out] at b1;rw[←HrB.out] at b2;have HtB2:Hid (jI w2 bb w2.heap.size (.agg #[za t.seq,hvB,rvB]) t):=tB;clear a0 a1 a2 o2 ch2 rB2 tB byB cB hB1 hB2 e5 e6 hbx hfl HB2;go_wp2_with fail;refine(jL w2 (by omega) (Nat.le_refl _) Hby.out HtB2.out).mono ?_;rintro e w4 ⟨g4,c4,rfl,o4,ch4⟩;rw[←HL.out] at o4⊢;have V4:Hid (zr w4 w2.heap.size w4.heap.size .u8 (.slice (some (zd g4)) L c4) (TL t).flatten):=o4.view (by have:=Hfl.out;omega) (fun g hg=>(o4.lt g hg).2)
   have V2':Hid (zr w4 wr.heap.size w2.heap.size .u8 (.slice (some (zd g2)) L c2) (TL t).flatten):=V2.out.chg ch4 (by omega);have Hc4:Hid (Chg 0 0 w w4):=(hc.trans Hc2.out).trans ch4;clear o4 ch4 b0 b1 b2 V2 Hc2 hc;go_wp2_with fail;refine(Xo w4 V2'.out V4.out).mono ?_;rintro e w5 ⟨rfl,rfl⟩;have hwk:IntKind.i64.wrap ((k:Int)+1)=((k+1:Nat):Int):=by rw[IntKind.wrap_i64];omega
   go_wp2;go_roundw
   case rel=>exact⟨⟨k+1,rfl,by omega,Hc4.out⟩⟩
   case measure=>simp[intOf];omega
  ·have e1:decide ((k:Int)<(n:Int))=false:=decide_eq_false (by omega);go_wp2;go_ret;exact⟨rfl,hc⟩
theorem qK.keepT {w w':World}{lo hi:Nat}{eW eB:TypeId}{v:Value}{d:Dsk}(h:qK w lo hi eW eB v d)(k: ∀(j:Nat) (cur:Array Value) (T:TypeId),T=eW∨T=eB→w.heap[j]?=some (.cells cur T (0,0))→w'.heap[j]?=some (.cells cur T (0,0))):qK w' lo hi eW eB v d:=by
 obtain⟨dv,pv,cells,dvs,h⟩:=h;exact⟨dv,pv,cells,dvs,h.agg,zH h.dur (fun j cur _ hh=>k j cur _ (Or.inr rfl) hh),⟨zH h.pend.row (fun j cur _ hh=>k j cur _ (Or.inl rfl) hh),h.pend.at0,h.pend.at1,fun i hi=>zH (h.pend.data i hi) (fun j cur _ hh=>k j cur _ (Or.inr rfl) hh),h.pend.apart⟩,h.apart,h.hiD,h.hiP,h.hiX⟩
theorem qK.upperL {w:World}{lo hi hi':Nat}{eW eB:TypeId}{v:Value}{d:Dsk}(h:qK w lo hi eW eB v d)(e:hi≤hi'):qK w lo hi' eW eB v d:=by
 obtain⟨dv,pv,cells,dvs,h⟩:=h;exact⟨dv,pv,cells,dvs,h.agg,h.dur,h.pend,h.apart,fun g hg=>Nat.lt_of_lt_of_le (h.hiD g hg) e,fun g hg=>Nat.lt_of_lt_of_le (h.hiP g hg) e,fun i g hi hg=>Nat.lt_of_lt_of_le (h.hiX i g hi hg) e⟩
theorem qm.keepT {w w':World}{base:Nat}{tv:Value}{ts:List Tx}{hs rs:List Value}(h:qm w base tv ts hs rs)(k: ∀(j:Nat) (cur:Array Value) (T:TypeId),T=35∨T=61∨T=2∨T=5→w.heap[j]?=some (.cells cur T (0,0))→w'.heap[j]?=some (.cells cur T (0,0))):qm w' base tv ts hs rs:=by
 refine⟨zH h.row (fun j cur _ hh=>k j cur _ (Or.inl rfl) hh),h.hl,h.rl,fun i hi=>?_⟩;obtain⟨es,o1,o2,o3,o4,o5,o6⟩:=h.el i hi;exact⟨es,o1.keep (fun j cur _ hh=>k j cur _ (Or.inr (Or.inl rfl)) hh) (fun j cur _ hh=>k j cur _ (Or.inr (Or.inr (Or.inr rfl))) hh),o2,o3,zH o4 (fun j cur _ hh=>k j cur _ (Or.inr (Or.inr (Or.inl rfl))) hh),o5,o6⟩
structure LgW (W:World)(B:Nat)(w:World)(d:Dsk)(sz st sq hd us:Int)(v0 v1 hv:Value)(ts:List Tx):Prop where
 ch:Chg W.heap.size w.heap.size W w
 le:W.heap.size≤B
 db:w.heap[B]?=some (.cells #[v0,v1] 26 (0,0))
 od:qK w W.heap.size w.heap.size 84 5 (.agg #[v0,v1]) d
 lb:w.heap[B+1]?=some (jG 30 sz st sq hd us)
 tx: ∃hs rs,qm w W.heap.size hv ts hs rs
theorem LgW.grow {W:World}{B:Nat}{w w':World}{d:Dsk}{sz st sq hd us:Int}{v0 v1 hv:Value}{ts:List Tx}(h:LgW W B w d sz st sq hd us v0 v1 hv ts)(c:Chg 0 0 w w'):LgW W B w' d sz st sq hd us v0 v1 hv ts:=by
 have s:=c.size;have h1:=(gLt h.lb);obtain⟨hs,rs,ht⟩:=h.tx;exact⟨(h.ch.widen (Or.inl (Nat.le_refl _)) (Or.inl s)).trans (c.widen (by omega) (by omega)),h.le,(c.block _ (by omega) (by omega)).trans h.db,(h.od.chg c (by omega)).upperL s,(c.block _ (by omega) (by omega)).trans h.lb,hs,rs,ht.chg c⟩
theorem LgW.setD {W:World}{B:Nat}{w wf:World}{d d':Dsk}{sz st sq hd us:Int}{v0 v1 u0 u1 hv:Value}{ts:List Tx}(h:LgW W B w d sz st sq hd us v0 v1 hv ts){lo hi:Nat}(hO:qK w lo hi 84 5 (.agg #[u0,u1]) d')(hlo:W.heap.size≤lo)(hhi:hi≤w.heap.size)
  (hb:wf.heap[B]?=some (.cells #[u0,u1] 26 (0,0))) (c:Chg B (B+1) w wf):LgW W B wf d' sz st sq hd us u0 u1 hv ts:=by
 have s:=c.size;have h1:=(gLt h.lb);have hle:=h.le;obtain⟨hs,rs,ht⟩:=h.tx;have k: ∀(j:Nat) (cur:Array Value) (T:TypeId),T≠26→w.heap[j]?=some (.cells cur T (0,0))→wf.heap[j]?=some (.cells cur T (0,0)):=fun j cur T hT hh=>(c.block j (gLt hh) (by
  have:j≠B:=fun e=>by rw[e,h.db] at hh;cases hh;exact hT rfl
  omega)).trans hh
 refine⟨(h.ch.widen (Or.inl (Nat.le_refl _)) (Or.inl s)).trans (c.widen (by omega) (by omega)),h.le,hb,(((hO.lower hlo).upperL (by omega:hi≤wf.heap.size))).keepT (fun j cur T hT hh=>k j cur T (by rcases hT with rfl|rfl<;>decide) hh),k _ _ _ (by decide) h.lb,hs,rs,ht.keepT (fun j cur T hT hh=>k j cur T (by rcases hT with rfl|rfl|rfl|rfl<;>decide) hh)⟩
theorem LgW.setL {W:World}{B:Nat}{w wf:World}{d:Dsk}{sz st sq hd us sz' st' sq' hd' us':Int}{v0 v1 hv:Value}{ts:List Tx}(h:LgW W B w d sz st sq hd us v0 v1 hv ts)
  (hb:wf.heap[B+1]?=some (jG 30 sz' st' sq' hd' us')) (c:Chg (B+1) (B+2) w wf):LgW W B wf d sz' st' sq' hd' us' v0 v1 hv ts:=by
 have s:=c.size;have h1:=(gLt h.lb);have hle:=h.le;obtain⟨hs,rs,ht⟩:=h.tx;have k: ∀(j:Nat) (cur:Array Value) (T:TypeId),T≠30→w.heap[j]?=some (.cells cur T (0,0))→wf.heap[j]?=some (.cells cur T (0,0)):=fun j cur T hT hh=>(c.block j (gLt hh) (by
  have:j≠B+1:=fun e=>by rw[e,h.lb] at hh;cases hh;exact hT rfl
  omega)).trans hh
 exact⟨(h.ch.widen (Or.inl (Nat.le_refl _)) (Or.inl s)).trans (c.widen (by omega) (by omega)),h.le,k _ _ _ (by decide) h.db,(h.od.upperL s).keepT (fun j cur T hT hh=>k j cur T (by rcases hT with rfl|rfl<;>decide) hh),hb,hs,rs,ht.keepT (fun j cur T hT hh=>k j cur T (by rcases hT with rfl|rfl|rfl|rfl<;>decide) hh)⟩
theorem LgW.other {W:World}{B:Nat}{w w':World}{d:Dsk}{sz st sq hd us:Int}{v0 v1 hv hv':Value}{ts ts':List Tx}(h:LgW W B w d sz st sq hd us v0 v1 hv ts)(ht: ∃hs rs,qm w' W.heap.size hv' ts' hs rs)(c:Chg W.heap.size w'.heap.size w w')
  (k: ∀(j:Nat) (cur:Array Value) (T:TypeId),T≠35→w.heap[j]?=some (.cells cur T (0,0))→w'.heap[j]?=some (.cells cur T (0,0))):LgW W B w' d sz st sq hd us v0 v1 hv' ts':=by
 have s:=c.size;exact⟨(h.ch.widen (Or.inl (Nat.le_refl _)) (Or.inl s)).trans c,h.le,k _ _ _ (by decide) h.db,(h.od.upperL s).keepT (fun j cur T hT hh=>k j cur T (by rcases hT with rfl|rfl<;>decide) hh),k _ _ _ (by decide) h.lb,ht⟩
theorem LgW.view {W:World}{B:Nat}{w:World}{d:Dsk}{sz st sq hd us:Int}{v0 v1 hv:Value}{ts:List Tx}(h:LgW W B w d sz st sq hd us v0 v1 hv ts){lo hi:Nat}{k:IntKind}{v:Value}{xs:List Int}(hv':zr W lo hi k v xs)(hhi:hi≤W.heap.size):zr w lo hi k v xs:=hv'.chg h.ch (Or.inl hhi)
theorem Ky (w:World)(i n:Nat)(hi:i≤1048576)(hn:n≤4294967296){lo hi':Nat}{a:Value}{ms:List Int}(hB:Byt ms)(h1:zr w lo hi' .u8 a ms)(hl:ms.length≤1048576):
  Calls Tryz.prog 4 #[a,za i,za n] w fun e w'=>(∃r:Nat,e= .returned (za r)∧(1<n→r<n)∧(n≤1→r=0))∧qC w w':=by
 obtain⟨ao,cap,rfl,_,_,hcell⟩:=h1;by_cases hn1:n≤1
 ·have h':(n:Int)≤1:=by omega
  clear hcell;go_enter Tryz.func4,Tryz.ntmps4;go_wp2;go_ret;exact⟨⟨0,rfl,by omega,by omega⟩,qC.refl _⟩
 have h': ¬(n:Int)≤1:=by omega
 have hn0: ¬(n:Int)=0:=by omega
 by_cases hk:ms.length=0
 ·have hk':((ms.length:Int)==0)=true:=by rw[hk];rfl
  have hr1:0≤(i:Int)*7 % (n:Int):=Int.emod_nonneg _ (by omega);have hr2:(i:Int)*7 % (n:Int)<n:=Int.emod_lt_of_pos _ (by omega);obtain⟨r,hr⟩: ∃r:Nat,(i:Int)*7 % (n:Int)=(r:Int):=⟨((i:Int)*7 % (n:Int)).toNat,by omega⟩;have HR:Hid ((i:Int)*7 % (n:Int)=(r:Int)):=hr;rw[hr] at hr2;clear hcell hk hr hr1;go_enter Tryz.func4,Tryz.ntmps4;go_wp2;go_ret;exact⟨⟨r,by rw[←HR.out];rfl,by omega⟩,qC.refl _⟩
 ·obtain⟨b,off,rfl,hb1,hb2,hc2⟩: ∃b off,ao=some ⟨b,off,none⟩∧lo≤b∧b<hi'∧ ∀i,i<ms.length→w.cell? ⟨b,off+i,none⟩=some (zb (ms.getD i 0)):=by
   rcases hcell with h|⟨b,off,e,h1,h2,h3⟩
   ·rw[h] at hk;exact absurd rfl hk
   ·exact⟨b,off,e,h1,h2,h3⟩
  have hk':((ms.length:Int)==0)=false:=by simp only[beq_eq_false_iff_ne,ne_eq];omega
  have hk0: ¬(ms.length:Int)=0:=by omega
  obtain⟨i1,hi1⟩: ∃i1,i1=i % ms.length:=⟨_,rfl⟩;obtain⟨i2,hi2⟩: ∃i2,i2=(i+1) % ms.length:=⟨_,rfl⟩;obtain⟨qt,hq⟩: ∃qt,qt=i/ms.length:=⟨_,rfl⟩;have l1:i1<ms.length:=by rw[hi1];exact Nat.mod_lt _ (by omega)
  have l2:i2<ms.length:=by rw[hi2];exact Nat.mod_lt _ (by omega)
  have lq:qt≤i:=by rw[hq];exact Nat.div_le_self _ _
  have e1:(i:Int) % (ms.length:Int)=(i1:Int):=by rw[hi1];omega
  have e2:((i:Int)+1) % (ms.length:Int)=(i2:Int):=by rw[hi2];exact(Int.natCast_emod (i+1) ms.length).symm
  have eq:(i:Int)/ (ms.length:Int)=(qt:Int):=by rw[hq];omega
  have d1:=hc2 i1 l1;have d2:=hc2 i2 l2;have b1:=hB.getD i1;have b2:=hB.getD i2;generalize ms.getD i1 0=x1 at*;generalize ms.getD i2 0=x2 at*;clear hi1 hi2 hq hc2 hcell hB;have hi1':(i1:Int)<(ms.length:Int):=by omega
  have hi2':(i2:Int)<(ms.length:Int):=by omega
  by_cases h200:(n:Int)>200
  ·have hr1:0≤((x1+qt)*37+x2) % (n:Int):=Int.emod_nonneg _ (by omega);have hr2:((x1+qt)*37+x2) % (n:Int)<n:=Int.emod_lt_of_pos _ (by omega);obtain⟨r,hr⟩: ∃r:Nat,((x1+qt)*37+x2) % (n:Int)=(r:Int):=⟨(((x1+qt)*37+x2) % (n:Int)).toNat,by omega⟩;have HR:Hid (((x1+qt)*37+x2) % (n:Int)=(r:Int)):=hr;rw[hr] at hr2;clear hr hr1;go_enter Tryz.func4,Tryz.ntmps4;go_wp2;go_quiet (fail);go_wp2;go_ret;exact⟨⟨r,by rw[←HR.out];rfl,by omega,by omega⟩,(qC.refl w).drewN _⟩
  ·have hr1:0≤(x1+qt) % (n:Int):=Int.emod_nonneg _ (by omega);have hr2:(x1+qt) % (n:Int)<n:=Int.emod_lt_of_pos _ (by omega);obtain⟨r,hr⟩: ∃r:Nat,(x1+qt) % (n:Int)=(r:Int):=⟨((x1+qt) % (n:Int)).toNat,by omega⟩;have HR:Hid ((x1+qt) % (n:Int)=(r:Int)):=hr;rw[hr] at hr2;clear hr hr1;go_enter Tryz.func4,Tryz.ntmps4;go_wp2;go_quiet (fail);go_wp2;go_ret;exact⟨⟨r,by rw[←HR.out];rfl,by omega,by omega⟩,(qC.refl w).drewN _⟩
end Go.Proofs.YtacjklochmelfaaGreatDoor
