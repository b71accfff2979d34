import Derived.Test.YtacjklochmelfaaGreatDoorEscMath
import Derived.Test.YtacjklochmelfaaGreatDoorRows
import Derived.Test.YtacjklochmelfaaGreatDoorCells2
import Derived.Test.YtacjklochmelfaaGreatDoorImplApp
import Derived.Test.YtacjklochmelfaaGreatDoorLogDisk
import Derived.Test.YtacjklochmelfaaGreatDoorLwAt
namespace Go.Proofs.YtacjklochmelfaaGreatDoor
open Go.RowKit
set_option maxRecDepth 100000
set_option maxHeartbeats 16000000
def Ql (os:List Opx):Nat:=(os.map fun o=>o.2.2.length+2).sum
theorem acM (os:List Opx):os.length≤Ql os:=by
 unfold Ql
 induction os with
 |nil=>simp
 |cons p r ih=>simp at*;omega
theorem Ke (os:List Opx)(k:Nat)(h:k<os.length):Ql (os.take (k+1))=Ql (os.take k)+((os.getD k Opx.zero).2.2.length+2):=by
 unfold Ql;rw[List.take_succ_eq_append_getElem h,List.map_append,List.sum_append_nat];simp[List.getD_eq_getElem?_getD,h]
theorem Un (os:List Opx)(k:Nat):Ql (os.take k)≤Ql os:=by
 have:Ql os=Ql (os.take k)+Ql (os.drop k):=by
  unfold Ql;rw[←List.sum_append_nat,←List.map_append,List.take_append_drop]
 omega
theorem zT.lt' {w:World}{base:Nat}{eO eB:TypeId}{v:Value}{os:List Opx}{cells:List Value}{dvs:Nat→Value}(h:zT w base eO eB v os cells dvs): ∀g,v.ownBlock=some g→base≤g∧g<w.heap.size:=World.ownsRow.lt h.row
theorem zT.dlt' {w:World}{base:Nat}{eO eB:TypeId}{v:Value}{os:List Opx}{cells:List Value}{dvs:Nat→Value}(h:zT w base eO eB v os cells dvs): ∀i g,i<os.length→(dvs i).ownBlock=some g→base≤g∧g<w.heap.size:=
 fun i g hi hg=>(h.data i hi).lt g hg
theorem zT.vw' {w:World}{base:Nat}{eO eB:TypeId}{v:Value}{os:List Opx}{cells:List Value}{dvs:Nat→Value}(h:zT w base eO eB v os cells dvs)(hl:Ql os≤140737488355328)(hd: ∀i,i<os.length→(os.getD i Opx.zero).2.2.length≤140737488355328):ju w base w.heap.size v os:=
 h.view (by have:=acM os;omega) (fun i hi=>by have:=hd i hi;omega) (fun g hg=>(h.lt' g hg).2) (fun i g hi hg=>(h.dlt' i g hi hg).2)
theorem aaC {os:List Opx}{i:Nat}(h:i<os.length):(os.getD i Opx.zero).2.2.length+2≤Ql os:=by
 have h1:=Ke os i h;have h2:=Un os (i+1);omega
theorem zT.look {w:World}{base:Nat}{eO eB:TypeId}{v:Value}{os:List Opx}{cells:List Value}{dvs:Nat→Value}(h:zT w base eO eB v os cells dvs)(hl:Ql os≤140737488355328):ju w base w.heap.size v os:=
 h.vw' hl (fun i hi=>by have:=aaC hi;omega)
theorem N0 {os:List Opx}(h: ∀o∈os,o.2.2.length≤64):Ql os≤os.length*66:=by
 unfold Ql
 induction os with
 |nil=>simp
 |cons o os ih=>
  have h1:=h o (by simp);have h2:=ih (fun p hp=>h p (by simp[hp]));simp only[List.map_cons,List.sum_cons,List.length_cons];omega
theorem abA (sz st sq hd us:Int){t:Tx}(hby: ∀x∈t.homes,Byt x.2):Ql (JS sz st sq hd us t)≤20000:=by
 unfold JS;split
 case isFalse=>simp[Ql]
 case isTrue h=>
  obtain⟨h57,h64⟩:=JR hby;have hvl:zJ sz st sq hd us=true:=by unfold jt at h;simp only[Bool.and_eq_true] at h;exact h.1
  have h1: ∀o∈zC sz st sq hd,o.2.2.length≤64:=by
   unfold zC;split
   ·intro o ho;simp at ho;rcases ho with rfl|rfl
    ·exact Nat.le_of_eq (aal (Qz hvl))
    ·simp
   ·simp
  have h2:(zC sz st sq hd).length≤2:=by unfold zC;split<;>simp
  have h3: ∀o∈QS sz hd (TL t) (TL t).length,o.2.2.length≤64:=by
   intro o ho;unfold QS at ho;obtain⟨i,hi,rfl⟩:=List.mem_map.1 ho;have hi':=List.mem_range.1 hi;exact Nat.le_of_eq (h64 _ (Zx ⟨i,hi'⟩))
  have h4:= @N0 (zC sz st sq hd++QS sz hd (TL t) (TL t).length++ [(2,0,[])]) (by
   intro o ho
   rcases List.mem_append.1 ho with ho|ho
   ·rcases List.mem_append.1 ho with ho|ho
    ·exact h1 o ho
    ·exact h3 o ho
   ·rw[List.mem_singleton.1 ho];simp)
  rw[List.length_append,List.length_append,Z9] at h4;simp only[List.length_cons,List.length_nil] at h4;omega
theorem abj (sz st sq hd us:Int):Ql (ZI sz st sq hd us)≤140737488355328:=by
 unfold ZI;split
 case isFalse=>simp[Ql]
 case isTrue h=>
  have h4:= @N0 (jC (qJ 106 108 111 103 1 sz sq hd)) (by
   intro o ho
   simp[jC] at ho
   rcases ho with rfl|rfl
   ·exact Nat.le_of_eq (aal (Qz h.1))
   ·simp)
  simp only[jC,List.length_cons,List.length_nil] at h4⊢;omega
structure LgR (W:World)(B sz:Nat)(x8 x9:Value)(w:World):Prop where
 ex: ∃(i st sq hd us q0:Nat) (F:Nat→FB) (d:Dsk) (v0 v1:Value) (ts:List Tx),x9=za i∧(i≤30∧sq≤i+1)∧LI d sz F st sq hd us q0 ts∧LgW W B w d sz st sq hd us v0 v1 x8 ts
structure LgT (W:World)(B T:Nat)(w:World)(d:Dsk)(sz st sq hd us:Int)(v0 v1 hv:Value)(ts:List Tx)(sq0:Int)(th tr:Value)(t:Tx):Prop where
 lg:LgW W B w d sz st sq hd us v0 v1 hv ts
 tb:w.heap[T]?=some (.cells #[za sq0,th,tr] 35 (0,0))
 ow:qE w W.heap.size th tr t
 apart:B+1<T
theorem LgT.grow {W:World}{B T:Nat}{w w':World}{d:Dsk}{sz st sq hd us:Int}{v0 v1 hv:Value}{ts:List Tx}{sq0:Int}{th tr:Value}{t:Tx}(h:LgT W B T w d sz st sq hd us v0 v1 hv ts sq0 th tr t)(c:Chg 0 0 w w'):LgT W B T w' d sz st sq hd us v0 v1 hv ts sq0 th tr t:=
 ⟨h.lg.grow c,(c.block _ (gLt h.tb) (by omega)).trans h.tb,h.ow.chg c (by omega),h.apart⟩
theorem LgT.tv {W:World}{B T:Nat}{w:World}{d:Dsk}{sz st sq hd us:Int}{v0 v1 hv:Value}{ts:List Tx}{sq0:Int}{th tr:Value}{t:Tx}(h:LgT W B T w d sz st sq hd us v0 v1 hv ts sq0 th tr t)(hq:t.seq=sq0):jI w W.heap.size w.heap.size (.agg #[za sq0,th,tr]) t∧(∀x∈t.homes,Byt x.2)∧Z3 t≤1000000:=by
 obtain⟨a,b,c,d⟩:=h.ow.view;exact⟨⟨_,_,by rw[hq],a,b⟩,c,d⟩
structure LgC (W:World)(B T:Nat)(d:Dsk)(sz st sq hd us:Int)(v0 v1 hv:Value)(ts:List Tx)(sq0:Int)(th tr:Value)(t:Tx)(rm:Bool)(x:Value)(w:World):Prop where
 ex: ∃b:Bool,x= .bool b∧(b=false→rm=true)∧LgT W B T w d sz st sq hd us v0 v1 hv ts sq0 th tr t
structure LgJ (W:World)(B T sz sq hd:Nat)(th tr:Value)(t:Tx)(x:Value)(w:World):Prop where
 ex: ∃(st us q0:Nat) (F:Nat→FB) (d:Dsk) (v0 v1:Value) (ts:List Tx),LI d sz F st sq hd us q0 ts∧LgT W B T w d sz st sq hd us v0 v1 x ts sq th tr t
structure LgE (W:World)(B sz i:Nat)(x:Value)(w:World):Prop where
 ex: ∃(st sq hd us q0:Nat) (F:Nat→FB) (d:Dsk) (v0 v1:Value) (ts:List Tx),sq≤i+2∧LI d sz F st sq hd us q0 ts∧LgW W B w d sz st sq hd us v0 v1 x ts
theorem Kk {W:World}{cv mv:Value}{code ms:List Int}{hi:Nat}{tL tM tK:TypeId}{vL vM vK:Value}(hb:Byt code)(hm:Byt ms)(hcv:zr W 0 hi .u8 cv code)(hmv:zr W 0 hi .u8 mv ms)(hhi:hi≤W.heap.size)(hG:jl W tL tM tK vL vM vK)(hE:Zg W)(hM:Mag W)(hGw:8≤W.heap.size):
  Calls Tryz.prog 3 #[cv,mv] W fun e w'=>e= .returned (.bool true)∧Chg 0 0 W w':=by
 obtain⟨ca,cc,rfl,hcl,hcr⟩:=id hcv;obtain⟨ma,mc,rfl,hml,hmr⟩:=id hmv;clear hcr hmr;have HG:Hid (jl W tL tM tK vL vM vK∧Zg W∧Mag W∧8≤W.heap.size):=⟨hG,hE,hM,hGw⟩;have HV:Hid ((zr W 0 hi .u8 (.slice ca code.length cc) code∧zr W 0 hi .u8 (.slice ma ms.length mc) ms)∧Byt code∧Byt ms):=⟨⟨hcv,hmv⟩,hb,hm⟩;clear hG hE hM hGw hcv hmv hb hm;obtain⟨n,Hn⟩: ∃n,Hid (n=code.length):=⟨_,rfl⟩;obtain⟨m,Hm⟩: ∃m,Hid (m=ms.length):=⟨_,rfl⟩
 rw[←Hn.out,←Hm.out] at HV⊢;go_enter Tryz.func3,Tryz.ntmps3;by_cases hbig:n>1048576∨m>1048576
 ·have hc0:Chg 0 0 W W:=Chg.refl _ _ _;by_cases h3:n>1048576
  ·have h1:decide ((n:Int)>1048576)=true:=decide_eq_true (by omega);have h1':(1048576:Int)<(n:Int):=by omega
   go_wp2;go_ret;exact⟨rfl,hc0⟩
  ·have h1:decide ((n:Int)>1048576)=false:=decide_eq_false (by omega);have h2:decide ((m:Int)>1048576)=true:=decide_eq_true (by omega);have h1': ¬(1048576:Int)<(n:Int):=by omega
   have h2':(1048576:Int)<(m:Int):=by omega
   go_wp2;go_ret;exact⟨rfl,hc0⟩
 ·have h1:decide ((n:Int)>1048576)=false:=decide_eq_false (by omega);have h2:decide ((m:Int)>1048576)=false:=decide_eq_false (by omega);have hnm:n≤1048576∧m≤1048576:=by omega
  clear hbig;go_wp2_with fail;have hat:=Ky W 0 64 (by omega) (by omega) HV.out.2.2 HV.out.1.2 (by have:=Hm.out;omega);rw[show(((0:Nat):Int))=0 from rfl,show(((64:Nat):Int))=64 from rfl] at hat;refine hat.mono ?_;rintro e w1 ⟨⟨r,rfl,hr,-⟩,hsame⟩;have hr64:=hr (by omega);clear hat hr;have c1:Chg 0 0 W w1:=hsame.chg 0 0;obtain⟨sz,hsz⟩: ∃sz:Nat,sz=16+r:=⟨_,rfl⟩;have hwz:IntKind.i64.wrap (16+(r:Int))=(sz:Int):=by rw[IntKind.wrap_i64];omega
  have hsz':16≤sz∧sz≤79:=by omega
  clear hsz hr64 hsame;go_wp2_with fail;refine(Kz w1 sz hsz').mono ?_;rintro e w2 ⟨v2,rfl,hD2,c2⟩;go_wp2_with fail;refine(YK w2 hD2).mono ?_;rintro e w3 ⟨v3,rfl,hO3,c3⟩;rw[aaP hsz'] at hO3;have c13:Chg 0 0 W w3:=(c1.trans c2).trans c3;have s2:=(c1.trans c2).size;obtain⟨a,l,c,a',l',c',rfl⟩:=hO3.agg;clear hD2 c1 c2 c3;have HI0:Hid (LgW W w3.heap.size (((w3.alloc (.cells #[.slice a l c,.slice a' l' c'] 26)).alloc (.cells #[za sz,za 0,za 1,za 1,za 0] 30)).alloc (.cells #[] 35)) (ZY sz) sz 0 1 1 0 (.slice a l c) (.slice a' l' c') (.slice (some (zd (w3.heap.size+2))) 0 0) []):=by
   obtain⟨e1,e2,e3,e4⟩:=QW w3 (.cells #[.slice a l c,.slice a' l' c'] 26) (.cells #[za sz,za 0,za 1,za 1,za 0] 30) (.cells #[] 35);have cz:Chg 0 0 w3 (((w3.alloc (.cells #[.slice a l c,.slice a' l' c'] 26)).alloc (.cells #[za sz,za 0,za 1,za 1,za 0] 30)).alloc (.cells #[] 35)):=((Chg.alloc (Chg.refl 0 0 w3) _).alloc _).alloc _;have hz:=cz.size;have h3:=c13.size;refine⟨(c13.trans cz).widen (by omega) (by omega),h3,e2,(qK.upperL (qK.chg (qK.lower hO3 s2) cz (by omega)) (by omega)),e3,[],[],?_,rfl,rfl,fun i hi=>absurd hi (by simp)⟩
   have e5:(((w3.alloc (.cells #[.slice a l c,.slice a' l' c'] 26)).alloc (.cells #[za sz,za 0,za 1,za 1,za 0] 30))).heap.size=w3.heap.size+2:=by rw[World.size_alloc,World.size_alloc]
   have:=World.ownsRow_lit (base:=W.heap.size) (e:=35) (size:=3) (((w3.alloc (.cells #[.slice a l c,.slice a' l' c'] 26)).alloc (.cells #[za sz,za 0,za 1,za 1,za 0] 30))) #[] 0 (by omega) (by unfold maxLen;omega) (by simp);rw[e5] at this;exact this
  clear hO3;go_wp2;generalize ((w3.alloc (.cells #[.slice a l c,.slice a' l' c'] 26)).alloc (.cells #[za sz,za 0,za 1,za 1,za 0] 30)).alloc (.cells #[] 35)=w6 at*;generalize w3.heap.size=B at*;obtain⟨n4,Hn4⟩: ∃n4,Hid (n4=4+n/8):=⟨_,rfl⟩;have hw4:IntKind.i64.wrap (4+(n:Int)/8)=(n4:Int):=by have:=Hn4.out;rw[IntKind.wrap_i64];omega
  go_loopw [8,9] (fun x8 x9 wr=>LgR W B sz x8 x9 wr) (fun _ x9 _=>30-(intOf x9).toNat)
  case atStart=>exact⟨⟨0,0,1,1,0,1,_,_,_,_,_,rfl,⟨by omega,by omega⟩,adN hsz',HI0.out⟩⟩
  case round=>
   clear HI0;obtain⟨i,st,sq,hd,us,q0,F,d,v0,v1,ts,rfl,⟨hi30,hsq⟩,hLI,hW⟩:=hrel.ex;have HLI:Hid (LI d sz F st sq hd us q0 ts):=hLI;have HW:Hid (LgW W B wr d sz st sq hd us v0 v1 u8 ts):=hW;clear hLI hW hrel;go_upto_region 8 with fail;go_cut [39] from 30 to 115 (fun x wx=>x= .bool (decide (i<n4∧i<30))∧wx=wr)
   case first=>
    by_cases h3:i<n4
    ·have e3:decide ((i:Int)<(n4:Int))=true:=decide_eq_true (by omega);by_cases h4:i<30
     ·have e4:decide ((i:Int)<30)=true:=decide_eq_true (by omega);go_wp2;go_meet;exact⟨by rw[show decide (i<n4∧i<30)=true from decide_eq_true (by omega)];try (congr 1;simp;omega),rfl⟩
     ·have e4:decide ((i:Int)<30)=false:=decide_eq_false (by omega);go_wp2;go_meet;exact⟨by rw[show decide (i<n4∧i<30)=false from decide_eq_false (by omega)];try (congr 1;simp;omega),rfl⟩
    ·have e3:decide ((i:Int)<(n4:Int))=false:=decide_eq_false (by omega);go_wp2;go_meet;exact⟨by rw[show decide (i<n4∧i<30)=false from decide_eq_false (by omega)],rfl⟩
   case rest=>
    obtain⟨rfl,hwc⟩:=hcut;obtain rfl:wr=wc:=hwc.symm;generalize hbb:decide (i<n4∧i<30)=bb
    cases bb
    ·clear hbb;have hLg:=HLI.out.log;have hfit:d.Fits:=⟨by have:=hLg.dur;have:=hLg.big;omega,by rw[hLg.pend];simp,by rw[hLg.pend];simp⟩;obtain⟨dv,pv,e5,⟨da,dc,rfl,_⟩,⟨pa,pc,rfl,_⟩⟩:=qK.view HW.out.od hfit;simp only[Value.agg.injEq,Array.mk.injEq,List.cons.injEq,and_true] at e5;obtain⟨rfl,rfl⟩:=e5;obtain⟨nd,Hnd⟩: ∃nd,Hid (nd=d.dur.length):=⟨_,rfl⟩;have hnd:decide ((0:Int)<(nd:Int))=true:=decide_eq_true (by have:=Hnd.out;have:=hLg.dur;omega)
     have hnd':decide (0<nd)=true:=decide_eq_true (by have:=Hnd.out;have:=hLg.dur;omega);have hdb:=HW.out.db;rw[←Hnd.out,hLg.pend,List.length_nil] at hdb;have d0:wr.cell? (zd B)=some (.slice da nd dc):=by simp[World.cell?,hdb]
     have d1:wr.cell? ⟨B,1,none⟩=some (.slice pa 0 pc):=by simp[World.cell?,hdb]
     have hch:Chg 0 0 W wr:=(Chg.refl 0 0 W).step HW.out.ch (Or.inr (Or.inl (Nat.le_refl _)));clear hdb hfit hLg HW HLI;go_wp2;go_ret;exact⟨rfl,hch⟩
    ·obtain⟨hi1,hi2⟩:=of_decide_eq_true hbb;clear hbb;have l2:wr.cell? ⟨B+1,2,none⟩=some (za sq):=by have:=HW.out.lb;simp[World.cell?,this]
     have hw5:IntKind.i64.wrap (2+(sz:Int))=(sz:Int)+2:=by rw[IntKind.wrap_i64];omega
     have hw6:IntKind.i64.wrap ((sz:Int)+150)=(sz:Int)+150:=by rw[IntKind.wrap_i64];omega
     have hVc:=HW.out.view HV.out.1.1 hhi;have hcl2:code.length≤1048576:=by have:=Hn.out;omega
     have hq1:=HLI.out.sqb;go_wp2_with fail;refine(Vn HV.out.2.1 hcl2 hVc i (by omega) (sq:Int) ((sz:Int)+2) ((sz:Int)+150) ⟨by omega,by omega⟩ ⟨by omega,by omega,by omega⟩).mono ?_;rintro e wt ⟨th,tr,t,rfl,hot,htq,htg,ct⟩;obtain⟨es,o1,o2⟩:=id hot;obtain⟨ta,tn,tc,rfl⟩:=o1.slice;obtain⟨ra,rc,e6⟩:=o2.2.2.1.shape;obtain⟨rn,Hrn⟩: ∃rn,Hid (rn=t.revs.length):=⟨_,rfl⟩;rw[←Hrn.out] at e6;subst e6;clear o1 o2 l2 hVc
     have cT:Chg 0 0 wt (wt.alloc (.cells #[za sq,.slice ta tn tc,.slice ra rn rc] 35)):=Chg.alloc (Chg.refl 0 0 wt) _;have HT:Hid (LgT W B wt.heap.size (wt.alloc (.cells #[za sq,.slice ta tn tc,.slice ra rn rc] 35)) d sz st sq hd us v0 v1 u8 ts sq (.slice ta tn tc) (.slice ra rn rc) t):=by
      have h9:=HW.out.grow ct;have h8:=(gLt h9.lb);have h7:=HW.out.ch.size;exact⟨h9.grow cT,zh _ _,(hot.low h7).chg cT (by omega),h8⟩
     have HGt:Hid (t.seq=(sq:Int)∧UR ((sz:Int)+2) ((sz:Int)+155) t):=⟨htq,htg.v,htg.b,fun x hx=>⟨(htg.h x hx).1,by have:=(htg.h x hx).2;omega⟩,fun x hx=>⟨(htg.r x hx).1,by have:=(htg.r x hx).2;omega⟩⟩;clear hot htq htg ct cT HW;go_wp2;generalize wt.alloc (.cells #[za sq,.slice ta tn tc,.slice ra rn rc] 35)=w7 at*;generalize wt.heap.size=T at*;have HX:Hid (LgT W B T w7.drew d sz st sq hd us v0 v1 u8 ts sq (.slice ta tn tc) (.slice ra rn rc) t):=HT.out.grow (Chg.drew (Chg.refl 0 0 w7))
     refine zW 7 (fun w':World=>w'.heap[B+1]?=some (jG 30 (sz:Int) (st:Int) (sq:Int) (hd:Int) (us:Int))∧w'.heap[T]?=some (.cells #[za sq,.slice ta tn tc,.slice ra rn rc] 35 (0,0))) (by kernel_rfl) ?_;clear HT;generalize w7.drew=X at*;have HS:Hid ((fun w':World=>w'.heap[B+1]?=some (jG 30 (sz:Int) (st:Int) (sq:Int) (hd:Int) (us:Int))∧w'.heap[T]?=some (.cells #[za sq,.slice ta tn tc,.slice ra rn rc] 35 (0,0))) X):=⟨HX.out.lg.lb,HX.out.tb⟩
     have hub:=HLI.out.usb;have hw8:IntKind.i64.wrap ((sz:Int)-(us:Int))=((sz-us:Nat):Int):=by rw[IntKind.wrap_i64];omega
     refine wTk 0 (.agg #[za sq,.slice ta tn tc,.slice ra rn rc]) rfl (fun w' hw'=>by obtain⟨q1,q2⟩:=hw';obtain⟨⟨h0,h1,h2⟩,_⟩:=tri q2;have l4:w'.cell? ⟨B+1,4,none⟩=some (za us):=(by simp[World.cell?,q1]);go_simp) HS.out ?_;go_simp;refine wTk 2 (za sz) rfl (fun w' hw'=>by obtain⟨q1,q2⟩:=hw';obtain⟨⟨h0,h1,h2⟩,_⟩:=tri q2;have l4:w'.cell? ⟨B+1,4,none⟩=some (za us):=(by simp[World.cell?,q1]);go_simp) HS.out ?_
     go_simp;refine wTk 3 (.pointer (some ⟨B+1,4,none⟩)) rfl (fun w' hw'=>by obtain⟨q1,q2⟩:=hw';obtain⟨⟨h0,h1,h2⟩,_⟩:=tri q2;have l4:w'.cell? ⟨B+1,4,none⟩=some (za us):=(by simp[World.cell?,q1]);go_simp) HS.out ?_;go_simp;refine wTk 4 (za us) rfl (fun w' hw'=>by obtain⟨q1,q2⟩:=hw';obtain⟨⟨h0,h1,h2⟩,_⟩:=tri q2;have l4:w'.cell? ⟨B+1,4,none⟩=some (za us):=(by simp[World.cell?,q1]);go_simp) HS.out ?_;go_simp
     refine wTk 5 (za ((sz-us:Nat):Int)) rfl (fun w' hw'=>by obtain⟨q1,q2⟩:=hw';obtain⟨⟨h0,h1,h2⟩,_⟩:=tri q2;have l4:w'.cell? ⟨B+1,4,none⟩=some (za us):=(by simp[World.cell?,q1]);go_simp) HS.out ?_;go_simp;refine zq 1 rfl rfl (by kernel_rfl) ?_;obtain⟨tv1,tv2,tv3⟩:=HX.out.tv HGt.out.1;refine zl 8 #[.agg #[za sq,.slice ta tn tc,.slice ra rn rc]] (by first|kernel_rfl|go_simp) (ZH X (by omega) (Nat.le_refl _) tv2 tv1) ?_
     rintro e X2 ⟨rfl,cX2⟩;have HX2:Hid (LgT W B T X2 d sz st sq hd us v0 v1 u8 ts sq (.slice ta tn tc) (.slice ra rn rc) t):=HX.out.grow cX2;clear tv1 tv2 tv3 cX2 HS HX;have hq1':=HX2.out.lg.lb;have hq2':=HX2.out.tb;refine⟨_,rfl,fun _=>⟨hq1',hq2'⟩,?_⟩;obtain⟨tl,Htl⟩: ∃tl,Hid (tl=(TL t).length):=⟨_,rfl⟩;rw[←Htl.out];obtain⟨sr,Hsr⟩: ∃sr:Nat,Hid (sr=sz-us):=⟨_,rfl⟩;rw[←Hsr.out];obtain⟨rm,hrm⟩: ∃rm,decide ((tl:Int)≤(sr:Int))=rm:=⟨_,rfl⟩
     have hrm2:decide (tl≤sr)=rm:=by rw[←hrm];simp
     go_simp;refine zq 6 rfl rfl (by kernel_rfl) ?_;go_simp;refine zq 7 rfl rfl (by kernel_rfl) ?_;go_simp;refine qi (by kernel_rfl) (NoPanic.normal ?_);clear hq1' hq2' hw5 hw6 hw8;have Hrm:Hid (decide (tl≤sr)=rm):=hrm2;clear hrm hrm2;go_upto_region 12 with fail;go_cut [66] from 30 to 115 (fun x wx=>LgC W B T d sz st sq hd us v0 v1 u8 ts sq (.slice ta tn tc) (.slice ra rn rc) t rm x wx)
     case first=>
      have hw9:IntKind.i64.wrap (1+(i:Int))=((1+i:Nat):Int):=by rw[IntKind.wrap_i64];omega
      have hml2:ms.length≤1048576:=by have:=Hm.out;omega
      cases rm
      ·go_wp2;go_meet;exact⟨⟨true,rfl,by simp,HX2.out⟩⟩
      ·go_wp2_with fail;have hat:=Ky X2 (1+i) 9 (by omega) (by omega) HV.out.2.2 (HX2.out.lg.view HV.out.1.2 hhi) hml2;rw[show(((9:Nat):Int))=9 from rfl] at hat;refine hat.mono ?_;rintro e w9 ⟨⟨r9,rfl,-,-⟩,hsame⟩;have HX9:Hid (LgT W B T w9 d sz st sq hd us v0 v1 u8 ts sq (.slice ta tn tc) (.slice ra rn rc) t):=HX2.out.grow (hsame.chg 0 0);clear hat hsame;obtain⟨b9,hb9⟩: ∃b,((r9:Int)==0)=b:=⟨_,rfl⟩
       go_wp2;go_meet;exact⟨⟨_,rfl,fun _=>rfl,HX9.out⟩⟩
     case rest=>
      obtain⟨b,rfl,hb,hT9⟩:=hcut.ex;generalize wc=w10 at*;have HT9:Hid (LgT W B T w10 d sz st sq hd us v0 v1 u8 ts sq (.slice ta tn tc) (.slice ra rn rc) t):=hT9;have Hb:Hid (b=false→rm=true):=hb;clear hb hcut hT9 HX2;go_upto_if 66 with fail;go_cut [8] from 30 to 115 (fun x wx=>LgJ W B T sz sq hd (.slice ta tn tc) (.slice ra rn rc) t x wx)
      case first=>
       cases b
       ·go_wp2;go_meet;exact⟨⟨st,us,q0,F,d,v0,v1,ts,HLI.out,HT9.out⟩⟩
       obtain⟨xa,xl,xc,ya,yl,yc,exy⟩:=qK.agg HT9.out.lg.od;simp only[Value.agg.injEq,Array.mk.injEq,List.cons.injEq,and_true] at exy;obtain⟨rfl,rfl⟩:=exy;go_wp2;have HX:Hid (LgT W B T w10.drew d sz st sq hd us (.slice xa xl xc) (.slice ya yl yc) u8 ts sq (.slice ta tn tc) (.slice ra rn rc) t):=HT9.out.grow (Chg.drew (Chg.refl 0 0 w10));refine zW 4 (fun w':World=>w'.heap[B]?=some (.cells #[.slice xa xl xc,.slice ya yl yc] 26 (0,0))∧w'.heap[B+1]?=some (jG 30 (sz:Int) (st:Int) (sq:Int) (hd:Int) (us:Int))) (by kernel_rfl) ?_
       clear HT9;generalize w10.drew=X at*;have HS:Hid ((fun w':World=>w'.heap[B]?=some (.cells #[.slice xa xl xc,.slice ya yl yc] 26 (0,0))∧w'.heap[B+1]?=some (jG 30 (sz:Int) (st:Int) (sq:Int) (hd:Int) (us:Int))) X):=⟨HX.out.lg.db,HX.out.lg.lb⟩;refine wTk 0 (.agg #[.slice xa xl xc,.slice ya yl yc]) rfl (fun w' hw'=>by obtain⟨q1,q2⟩:=hw';have k0:w'.cell? (zd B)=some (.slice xa xl xc):=(by simp[World.cell?,q1]);have k1:w'.cell? ⟨B,1,none⟩=some (.slice ya yl yc):=(by simp[World.cell?,q1]);have l0:w'.cell? (zd (B+1))=some (za sz):=(by simp[World.cell?,q2]);have l1:w'.cell? ⟨B+1,1,none⟩=some (za st):=(by simp[World.cell?,q2]);have l2:w'.cell? ⟨B+1,2,none⟩=some (za sq):=(by simp[World.cell?,q2]);have l3:w'.cell? ⟨B+1,3,none⟩=some (za hd):=(by simp[World.cell?,q2]);have l4:w'.cell? ⟨B+1,4,none⟩=some (za us):=(by simp[World.cell?,q2]);go_simp) HS.out ?_
       go_simp;refine wTk 1 (.agg #[za sz,za st,za sq,za hd,za us]) rfl (fun w' hw'=>by obtain⟨q1,q2⟩:=hw';have k0:w'.cell? (zd B)=some (.slice xa xl xc):=(by simp[World.cell?,q1]);have k1:w'.cell? ⟨B,1,none⟩=some (.slice ya yl yc):=(by simp[World.cell?,q1]);have l0:w'.cell? (zd (B+1))=some (za sz):=(by simp[World.cell?,q2]);have l1:w'.cell? ⟨B+1,1,none⟩=some (za st):=(by simp[World.cell?,q2]);have l2:w'.cell? ⟨B+1,2,none⟩=some (za sq):=(by simp[World.cell?,q2]);have l3:w'.cell? ⟨B+1,3,none⟩=some (za hd):=(by simp[World.cell?,q2]);have l4:w'.cell? ⟨B+1,4,none⟩=some (za us):=(by simp[World.cell?,q2]);go_simp) HS.out ?_
       go_simp;refine zq 2 rfl rfl (by kernel_rfl) ?_;have hMX:Mag X:=HG.out.2.2.1.chg HX.out.lg.ch (Or.inr HG.out.2.2.2);refine zl 10 #[.agg #[za sz,za st,za sq,za hd,za us]] (by first|kernel_rfl|go_simp) (Kn X sz st sq hd us hMX.m0 hMX.m1 hMX.m2 hMX.m3) ?_;rintro e X2 ⟨ov,rfl,⟨cs,dvs,oo⟩,cX2⟩;have HX2:Hid (LgT W B T X2 d sz st sq hd us (.slice xa xl xc) (.slice ya yl yc) u8 ts sq (.slice ta tn tc) (.slice ra rn rc) t):=HX.out.grow cX2
       have HOv:Hid (ju X2 X.heap.size X2.heap.size ov (ZI sz st sq hd us)):=oo.look (abj _ _ _ _ _);obtain⟨oa,on,oc,rfl⟩: ∃a n c,ov= .slice a n c:=by obtain⟨a,c,e,_⟩:=HOv.out;exact⟨a,_,c,e⟩
       refine⟨_,rfl,fun _=>⟨HX2.out.lg.db,HX2.out.lg.lb⟩,?_⟩;clear oo cX2 hMX HS HX;have hfit:d.Fits:=by
        have hLg:=HLI.out.log;exact⟨by have:=hLg.dur;have:=hLg.big;omega,by rw[hLg.pend];simp,by rw[hLg.pend];simp⟩
       have hDV:=qK.view HX2.out.lg.od hfit;go_simp;refine zq 3 rfl rfl (by kernel_rfl) ?_;refine zl 9 #[.agg #[.slice xa xl xc,.slice ya yl yc],.slice oa on oc,za (-1)] (by first|kernel_rfl|go_simp) (Xg X2 (-1) hDV HOv.out (Nat.le_refl _)) ?_;rintro e X3 ⟨dv3,rfl,hO3,cX3⟩;have HX3:Hid (LgT W B T X3 d sz st sq hd us (.slice xa xl xc) (.slice ya yl yc) u8 ts sq (.slice ta tn tc) (.slice ra rn rc) t):=HX2.out.grow cX3
       have sX2:=HX2.out.lg.ch.size;obtain⟨pa,pl,pc,pa',pl',pc',rfl⟩:=qK.agg hO3;refine⟨_,rfl,fun _=>⟨HX3.out.lg.db,HX3.out.lg.lb⟩,?_⟩;clear hDV HOv HX2 cX3;go_simp;refine zq 4 rfl rfl (by kernel_rfl) ?_;refine wp_store_row 26 (.tmp 6) (.tmp 70) rfl rfl B rfl [.slice pa pl pc,.slice pa' pl' pc'] [.slice xa xl xc,.slice ya yl yc] 26 rfl HX3.out.lg.db rfl (by kernel_rfl) (by simp[Value.oneCell']) ?_
       intro X4 hb4 hc4;have kX: ∀(j:Nat) (cur:Array Value) (T':TypeId),T'≠26→X3.heap[j]?=some (.cells cur T' (0,0))→X4.heap[j]?=some (.cells cur T' (0,0)):=fun j cur T' hT hh=>(hc4.block j (gLt hh) (by
        have:j≠B:=fun e=>by rw[e,HX3.out.lg.db] at hh;cases hh;exact hT rfl
        omega)).trans hh
       have HX4:Hid (LgT W B T X4 (doD d (ZI sz st sq hd us) (-1)) sz st sq hd us (.slice pa pl pc) (.slice pa' pl' pc') u8 ts sq (.slice ta tn tc) (.slice ra rn rc) t):=by
        obtain⟨es,o1,o2,o3,o4,o5,o6⟩:=HX3.out.ow;exact⟨HX3.out.lg.setD hO3 sX2 (Nat.le_refl _) hb4 hc4,kX _ _ _ (by decide) HX3.out.tb,⟨es,o1.keep (fun j cur _ hh=>kX j cur _ (by decide) hh) (fun j cur _ hh=>kX j cur _ (by decide) hh),o2,o3,zH o4 (fun j cur _ hh=>kX j cur _ (by decide) hh),o5,o6⟩,HX3.out.apart⟩
       refine⟨fun h=>absurd rfl h,?_⟩;clear kX hb4 hc4 hO3 HX3;go_simp;refine qi (by kernel_rfl) (NoPanic.normal ?_);have l0:X4.cell? (zd (B+1))=some (za sz):=by have:=HX4.out.lg.lb;simp[World.cell?,this]
       have l1:X4.cell? ⟨B+1,1,none⟩=some (za st):=by have:=HX4.out.lg.lb;simp[World.cell?,this]
       have l2:X4.cell? ⟨B+1,2,none⟩=some (za sq):=by have:=HX4.out.lg.lb;simp[World.cell?,this]
       have l3:X4.cell? ⟨B+1,3,none⟩=some (za hd):=by have:=HX4.out.lg.lb;simp[World.cell?,this]
       have l4:X4.cell? ⟨B+1,4,none⟩=some (za us):=by have:=HX4.out.lg.lb;simp[World.cell?,this]
       go_wp2_with fail;refine(Xi X4 sz st sq hd us).mono ?_;rintro e X5 ⟨rfl,cX5⟩;have HX5:Hid (LgT W B T X5 (doD d (ZI sz st sq hd us) (-1)) sz st sq hd us (.slice pa pl pc) (.slice pa' pl' pc') u8 ts sq (.slice ta tn tc) (.slice ra rn rc) t):=HX4.out.grow cX5;clear l0 l1 l2 l3 l4 cX5 HX4;obtain⟨st',us',q0',hLI',htv⟩:=HLI.out.tail;have HLI':Hid (LI (doD d (ZI sz st sq hd us) (-1)) sz F st' sq hd us' q0' []):=hLI'
       rw[htv];clear hLI' htv;obtain⟨d',Hd'⟩: ∃d',Hid (d'=doD d (ZI sz st sq hd us) (-1)):=⟨_,rfl⟩;rw[←Hd'.out] at HX5 HLI';have hlbb:=HX5.out.lg.lb;go_upto_region 15 with(refine wpList_store_row rfl 30 (.tmp 7) (.tmp 72) rfl rfl (B+1) rfl [za sz,za (st':Int),za sq,za hd,za (us':Int)] [za sz,za st,za sq,za hd,za us] 30 rfl hlbb rfl (by kernel_rfl) (by simp[Value.oneCell']) ?_;intro X6 hb6 hc6);have HX6:Hid (LgT W B T X6 d' sz st' sq hd us' (.slice pa pl pc) (.slice pa' pl' pc') u8 ts sq (.slice ta tn tc) (.slice ra rn rc) t):=by
        have kX: ∀(j:Nat) (cur:Array Value) (T':TypeId),T'≠30→X5.heap[j]?=some (.cells cur T' (0,0))→X6.heap[j]?=some (.cells cur T' (0,0)):=fun j cur T' hT hh=>(hc6.block j (gLt hh) (by
         have:j≠B+1:=fun e=>by rw[e,hlbb] at hh;cases hh;exact hT rfl
         omega)).trans hh
        obtain⟨es,o1,o2,o3,o4,o5,o6⟩:=HX5.out.ow;exact⟨HX5.out.lg.setL hb6 hc6,kX _ _ _ (by decide) HX5.out.tb,⟨es,o1.keep (fun j cur _ hh=>kX j cur _ (by decide) hh) (fun j cur _ hh=>kX j cur _ (by decide) hh),o2,o3,zH o4 (fun j cur _ hh=>kX j cur _ (by decide) hh),o5,o6⟩,HX5.out.apart⟩
       clear hlbb hb6 hc6 HX5;go_wp2;go_meet;have c7:Chg 0 0 X6 (X6.alloc (.cells #[] 35)):=Chg.alloc (Chg.refl 0 0 X6) _;have h7:=HX6.out.grow c7;have hs6:=HX6.out.lg.ch.size;have s7:=c7.size;refine⟨⟨st',us',q0',F,d',_,_,[],HLI'.out,⟨h7.lg.other ⟨[],[],?_,rfl,rfl,fun i hi=>absurd hi (by simp)⟩ (Chg.refl _ _ _) (fun _ _ _ _ hh=>hh),h7.tb,h7.ow,h7.apart⟩⟩⟩;exact World.ownsRow_lit (base:=W.heap.size) (e:=35) (size:=3) X6 #[] 0 (by omega) (by unfold maxLen;omega) (by simp)
      case rest=>
       obtain⟨st2,us2,q2,F2,d2,x0,x1,ts2,hLI,hT⟩:=hcut.ex;generalize wc=w11 at*;have HLI2:Hid (LI d2 sz F2 st2 sq hd us2 q2 ts2):=hLI;obtain⟨h8,Hh8⟩: ∃h8,Hid (h8=u8):=⟨_,rfl⟩;rw[←Hh8.out] at hT⊢;have HT2:Hid (LgT W B T w11 d2 sz st2 sq hd us2 x0 x1 h8 ts2 sq (.slice ta tn tc) (.slice ra rn rc) t):=hT;clear hcut hLI hT HLI HT9 Hb Hrm Htl Hsr;go_wp2;have HX:Hid (LgT W B T w11.drew d2 sz st2 sq hd us2 x0 x1 h8 ts2 sq (.slice ta tn tc) (.slice ra rn rc) t):=HT2.out.grow (Chg.drew (Chg.refl 0 0 w11))
       refine zp (fun w':World=>w'.heap[B+1]?=some (jG 30 (sz:Int) (st2:Int) (sq:Int) (hd:Int) (us2:Int))∧w'.heap[T]?=some (.cells #[za sq,.slice ta tn tc,.slice ra rn rc] 35 (0,0))) (by kernel_rfl) ?_;clear HT2;generalize w11.drew=X at*;have HS:Hid ((fun w':World=>w'.heap[B+1]?=some (jG 30 (sz:Int) (st2:Int) (sq:Int) (hd:Int) (us2:Int))∧w'.heap[T]?=some (.cells #[za sq,.slice ta tn tc,.slice ra rn rc] 35 (0,0))) X):=⟨HX.out.lg.lb,HX.out.tb⟩
       have hub:=HLI2.out.usb;have hw8:IntKind.i64.wrap ((sz:Int)-(us2:Int))=((sz-us2:Nat):Int):=by rw[IntKind.wrap_i64];omega
       refine hTk 0 (.agg #[za sq,.slice ta tn tc,.slice ra rn rc]) rfl (fun w' hw'=>by obtain⟨q1,q2⟩:=hw';obtain⟨⟨h0,h1,h2⟩,_⟩:=tri q2;have l4:w'.cell? ⟨B+1,4,none⟩=some (za us2):=(by simp[World.cell?,q1]);go_simp) HS.out ?_;go_simp;refine hTk 2 (za sz) rfl (fun w' hw'=>by obtain⟨q1,q2⟩:=hw';obtain⟨⟨h0,h1,h2⟩,_⟩:=tri q2;have l4:w'.cell? ⟨B+1,4,none⟩=some (za us2):=(by simp[World.cell?,q1]);go_simp) HS.out ?_
       go_simp;refine hTk 3 (.pointer (some ⟨B+1,4,none⟩)) rfl (fun w' hw'=>by obtain⟨q1,q2⟩:=hw';obtain⟨⟨h0,h1,h2⟩,_⟩:=tri q2;have l4:w'.cell? ⟨B+1,4,none⟩=some (za us2):=(by simp[World.cell?,q1]);go_simp) HS.out ?_;go_simp;refine hTk 4 (za us2) rfl (fun w' hw'=>by obtain⟨q1,q2⟩:=hw';obtain⟨⟨h0,h1,h2⟩,_⟩:=tri q2;have l4:w'.cell? ⟨B+1,4,none⟩=some (za us2):=(by simp[World.cell?,q1]);go_simp) HS.out ?_
       go_simp;refine hTk 5 (za ((sz-us2:Nat):Int)) rfl (fun w' hw'=>by obtain⟨q1,q2⟩:=hw';obtain⟨⟨h0,h1,h2⟩,_⟩:=tri q2;have l4:w'.cell? ⟨B+1,4,none⟩=some (za us2):=(by simp[World.cell?,q1]);go_simp) HS.out ?_;go_simp;refine zg 1 rfl rfl (by kernel_rfl) ?_;obtain⟨tv1,tv2,tv3⟩:=HX.out.tv HGt.out.1;refine zl 8 #[.agg #[za sq,.slice ta tn tc,.slice ra rn rc]] (by first|kernel_rfl|go_simp) (ZH X (by omega) (Nat.le_refl _) tv2 tv1) ?_
       rintro e X2 ⟨rfl,cX2⟩;have HX2:Hid (LgT W B T X2 d2 sz st2 sq hd us2 x0 x1 h8 ts2 sq (.slice ta tn tc) (.slice ra rn rc) t):=HX.out.grow cX2;clear tv1 tv2 tv3 cX2 HS HX;have hq1':=HX2.out.lg.lb;have hq2':=HX2.out.tb;refine⟨_,rfl,⟨hq1',hq2'⟩,?_⟩;obtain⟨tl2,Htl⟩: ∃tl,Hid (tl=(TL t).length):=⟨_,rfl⟩;rw[←Htl.out];obtain⟨sr2,Hsr⟩: ∃sr:Nat,Hid (sr=sz-us2):=⟨_,rfl⟩;rw[←Hsr.out];obtain⟨rm2,hrm⟩: ∃rm,decide ((tl2:Int)≤(sr2:Int))=rm:=⟨_,rfl⟩
       have hrm2:decide (tl2≤sr2)=rm2:=by rw[←hrm];simp
       go_simp;refine zg 6 rfl rfl (by kernel_rfl) ?_;go_simp;refine⟨by kernel_rfl,NoPanic.normal ?_⟩;clear hq1' hq2' hw8;have Hrm:Hid (decide (tl2≤sr2)=rm2):=hrm2;clear hrm hrm2;go_upto_if 80 with fail;go_cut [8] from 30 to 115 (fun x wx=>LgE W B sz i x wx)
       case first=>
        cases rm2
        ·go_wp2;go_meet;exact⟨⟨st2,sq,hd,us2,q2,F2,d2,x0,x1,ts2,by omega,HLI2.out,HX2.out.lg⟩⟩
        obtain⟨xa,xl,xc,ya,yl,yc,exy⟩:=qK.agg HX2.out.lg.od;simp only[Value.agg.injEq,Array.mk.injEq,List.cons.injEq,and_true] at exy;obtain⟨rfl,rfl⟩:=exy;go_wp2;have HY:Hid (LgT W B T X2.drew d2 sz st2 sq hd us2 (.slice xa xl xc) (.slice ya yl yc) h8 ts2 sq (.slice ta tn tc) (.slice ra rn rc) t):=HX2.out.grow (Chg.drew (Chg.refl 0 0 X2));refine zW 5 (fun w':World=>w'.heap[B]?=some (.cells #[.slice xa xl xc,.slice ya yl yc] 26 (0,0))∧w'.heap[B+1]?=some (jG 30 (sz:Int) (st2:Int) (sq:Int) (hd:Int) (us2:Int))∧w'.heap[T]?=some (.cells #[za sq,.slice ta tn tc,.slice ra rn rc] 35 (0,0))) (by kernel_rfl) ?_
        clear HX2;generalize X2.drew=Y at*;have HS:Hid ((fun w':World=>w'.heap[B]?=some (.cells #[.slice xa xl xc,.slice ya yl yc] 26 (0,0))∧w'.heap[B+1]?=some (jG 30 (sz:Int) (st2:Int) (sq:Int) (hd:Int) (us2:Int))∧w'.heap[T]?=some (.cells #[za sq,.slice ta tn tc,.slice ra rn rc] 35 (0,0))) Y):=⟨HY.out.lg.db,HY.out.lg.lb,HY.out.tb⟩;refine wTk 0 (.agg #[.slice xa xl xc,.slice ya yl yc]) rfl (fun w' hw'=>by obtain⟨q1,q2,q3⟩:=hw';obtain⟨⟨h0,h1,h2⟩,_⟩:=tri q3;have k0:w'.cell? (zd B)=some (.slice xa xl xc):=(by simp[World.cell?,q1]);have k1:w'.cell? ⟨B,1,none⟩=some (.slice ya yl yc):=(by simp[World.cell?,q1]);have l0:w'.cell? (zd (B+1))=some (za sz):=(by simp[World.cell?,q2]);have l1:w'.cell? ⟨B+1,1,none⟩=some (za st2):=(by simp[World.cell?,q2]);have l2:w'.cell? ⟨B+1,2,none⟩=some (za sq):=(by simp[World.cell?,q2]);have l3:w'.cell? ⟨B+1,3,none⟩=some (za hd):=(by simp[World.cell?,q2]);have l4:w'.cell? ⟨B+1,4,none⟩=some (za us2):=(by simp[World.cell?,q2]);go_simp) HS.out ?_
        go_simp;refine wTk 1 (.agg #[za sz,za st2,za sq,za hd,za us2]) rfl (fun w' hw'=>by obtain⟨q1,q2,q3⟩:=hw';obtain⟨⟨h0,h1,h2⟩,_⟩:=tri q3;have k0:w'.cell? (zd B)=some (.slice xa xl xc):=(by simp[World.cell?,q1]);have k1:w'.cell? ⟨B,1,none⟩=some (.slice ya yl yc):=(by simp[World.cell?,q1]);have l0:w'.cell? (zd (B+1))=some (za sz):=(by simp[World.cell?,q2]);have l1:w'.cell? ⟨B+1,1,none⟩=some (za st2):=(by simp[World.cell?,q2]);have l2:w'.cell? ⟨B+1,2,none⟩=some (za sq):=(by simp[World.cell?,q2]);have l3:w'.cell? ⟨B+1,3,none⟩=some (za hd):=(by simp[World.cell?,q2]);have l4:w'.cell? ⟨B+1,4,none⟩=some (za us2):=(by simp[World.cell?,q2]);go_simp) HS.out ?_
        go_simp;refine wTk 2 (.agg #[za sq,.slice ta tn tc,.slice ra rn rc]) rfl (fun w' hw'=>by obtain⟨q1,q2,q3⟩:=hw';obtain⟨⟨h0,h1,h2⟩,_⟩:=tri q3;have k0:w'.cell? (zd B)=some (.slice xa xl xc):=(by simp[World.cell?,q1]);have k1:w'.cell? ⟨B,1,none⟩=some (.slice ya yl yc):=(by simp[World.cell?,q1]);have l0:w'.cell? (zd (B+1))=some (za sz):=(by simp[World.cell?,q2]);have l1:w'.cell? ⟨B+1,1,none⟩=some (za st2):=(by simp[World.cell?,q2]);have l2:w'.cell? ⟨B+1,2,none⟩=some (za sq):=(by simp[World.cell?,q2]);have l3:w'.cell? ⟨B+1,3,none⟩=some (za hd):=(by simp[World.cell?,q2]);have l4:w'.cell? ⟨B+1,4,none⟩=some (za us2):=(by simp[World.cell?,q2]);go_simp) HS.out ?_
        go_simp;refine zq 3 rfl rfl (by kernel_rfl) ?_;have hMY:Mag Y:=HG.out.2.2.1.chg HY.out.lg.ch (Or.inr HG.out.2.2.2);obtain⟨tv1,tv2,tv3⟩:=HY.out.tv HGt.out.1;refine zl 12 #[.agg #[za sz,za st2,za sq,za hd,za us2],.agg #[za sq,.slice ta tn tc,.slice ra rn rc]] (by first|kernel_rfl|go_simp) (XK Y sz st2 sq hd us2 (by omega) (Nat.le_refl _) tv2 hMY tv1) ?_;rintro e Y2 ⟨ov,rfl,⟨cs,dvs,oo⟩,cY2⟩;have HY2:Hid (LgT W B T Y2 d2 sz st2 sq hd us2 (.slice xa xl xc) (.slice ya yl yc) h8 ts2 sq (.slice ta tn tc) (.slice ra rn rc) t):=HY.out.grow cY2
        have HOv:Hid (ju Y2 Y.heap.size Y2.heap.size ov (JS sz st2 sq hd us2 t)):=oo.look (by have:=abA sz st2 sq hd us2 tv2;omega);obtain⟨oa,on,oc,rfl⟩: ∃a n c,ov= .slice a n c:=by obtain⟨a,c,e,_⟩:=HOv.out;exact⟨a,_,c,e⟩
        refine⟨_,rfl,fun _=>⟨HY2.out.lg.db,HY2.out.lg.lb,HY2.out.tb⟩,?_⟩;clear oo cY2 hMY HS HY tv1 tv2 tv3;have hfit:d2.Fits:=by
         have hLg:=HLI2.out.log;exact⟨by have:=hLg.dur;have:=hLg.big;omega,by rw[hLg.pend];simp,by rw[hLg.pend];simp⟩
        have hDV:=qK.view HY2.out.lg.od hfit;go_simp;refine zq 4 rfl rfl (by kernel_rfl) ?_;refine zl 9 #[.agg #[.slice xa xl xc,.slice ya yl yc],.slice oa on oc,za (-1)] (by first|kernel_rfl|go_simp) (Xg Y2 (-1) hDV HOv.out (Nat.le_refl _)) ?_;rintro e Y3 ⟨dv3,rfl,hO3,cY3⟩;have HY3:Hid (LgT W B T Y3 d2 sz st2 sq hd us2 (.slice xa xl xc) (.slice ya yl yc) h8 ts2 sq (.slice ta tn tc) (.slice ra rn rc) t):=HY2.out.grow cY3
        have sY2:=HY2.out.lg.ch.size;obtain⟨pa,pl,pc,pa',pl',pc',rfl⟩:=qK.agg hO3;refine⟨_,rfl,fun _=>⟨HY3.out.lg.db,HY3.out.lg.lb,HY3.out.tb⟩,?_⟩;clear hDV HOv HY2 cY3;go_simp;refine zq 5 rfl rfl (by kernel_rfl) ?_;refine wp_store_row 26 (.tmp 6) (.tmp 85) rfl rfl B rfl [.slice pa pl pc,.slice pa' pl' pc'] [.slice xa xl xc,.slice ya yl yc] 26 rfl HY3.out.lg.db rfl (by kernel_rfl) (by simp[Value.oneCell']) ?_
        intro Y4 hb4 hc4;have kX: ∀(j:Nat) (cur:Array Value) (T':TypeId),T'≠26→Y3.heap[j]?=some (.cells cur T' (0,0))→Y4.heap[j]?=some (.cells cur T' (0,0)):=fun j cur T' hT hh=>(hc4.block j (gLt hh) (by
         have:j≠B:=fun e=>by rw[e,HY3.out.lg.db] at hh;cases hh;exact hT rfl
         omega)).trans hh
        have HY4:Hid (LgT W B T Y4 (doD d2 (JS sz st2 sq hd us2 t) (-1)) sz st2 sq hd us2 (.slice pa pl pc) (.slice pa' pl' pc') h8 ts2 sq (.slice ta tn tc) (.slice ra rn rc) t):=by
         obtain⟨es,o1,o2,o3,o4,o5,o6⟩:=HY3.out.ow;exact⟨HY3.out.lg.setD hO3 sY2 (Nat.le_refl _) hb4 hc4,kX _ _ _ (by decide) HY3.out.tb,⟨es,o1.keep (fun j cur _ hh=>kX j cur _ (by decide) hh) (fun j cur _ hh=>kX j cur _ (by decide) hh),o2,o3,zH o4 (fun j cur _ hh=>kX j cur _ (by decide) hh),o5,o6⟩,HY3.out.apart⟩
        refine⟨fun h=>absurd rfl h,?_⟩;clear kX hb4 hc4 hO3 HY3;go_simp;refine qi (by kernel_rfl) (NoPanic.normal ?_);have l0:Y4.cell? (zd (B+1))=some (za sz):=by have:=HY4.out.lg.lb;simp[World.cell?,this]
        have l1:Y4.cell? ⟨B+1,1,none⟩=some (za st2):=by have:=HY4.out.lg.lb;simp[World.cell?,this]
        have l2:Y4.cell? ⟨B+1,2,none⟩=some (za sq):=by have:=HY4.out.lg.lb;simp[World.cell?,this]
        have l3:Y4.cell? ⟨B+1,3,none⟩=some (za hd):=by have:=HY4.out.lg.lb;simp[World.cell?,this]
        have l4:Y4.cell? ⟨B+1,4,none⟩=some (za us2):=by have:=HY4.out.lg.lb;simp[World.cell?,this]
        obtain⟨⟨k0,k1,k2⟩,_⟩:=tri HY4.out.tb;have hMY4:Mag Y4:=HG.out.2.2.1.chg HY4.out.lg.ch (Or.inr HG.out.2.2.2);go_wp2_with fail;obtain⟨tv1,tv2,tv3⟩:=HY4.out.tv HGt.out.1;refine(Xh Y4 sz st2 sq hd us2 (by omega) (Nat.le_refl _) tv2 hMY4 tv1).mono ?_;rintro e Y5 ⟨rfl,cY5⟩;have HY5:Hid (LgT W B T Y5 (doD d2 (JS sz st2 sq hd us2 t) (-1)) sz st2 sq hd us2 (.slice pa pl pc) (.slice pa' pl' pc') h8 ts2 sq (.slice ta tn tc) (.slice ra rn rc) t):=HY4.out.grow cY5
        clear l0 l1 l2 l3 l4 k0 k1 k2 tv1 tv2 tv3 hMY4 cY5 HY4;obtain⟨F',st',hd',us',q0',hLI',htv,-⟩:=HLI2.out.app HGt.out.2 HGt.out.1 (by have:=Htl.out;have:=Hsr.out;have:=of_decide_eq_true Hrm.out;omega) (by omega);have HLI':Hid (LI (doD d2 (JS sz st2 sq hd us2 t) (-1)) sz F' st' (sq+1) hd' us' q0' (ts2++ [t])):=hLI';rw[htv];clear hLI' htv;obtain⟨d',Hd'⟩: ∃d',Hid (d'=doD d2 (JS sz st2 sq hd us2 t) (-1)):=⟨_,rfl⟩
        rw[←Hd'.out] at HY5 HLI';obtain⟨sq1,Hsq1⟩: ∃sq1,Hid (sq1=sq+1):=⟨_,rfl⟩;rw[←Hsq1.out] at HLI'⊢;have hlbb:=HY5.out.lg.lb;go_upto_region 19 with(refine wpList_store_row rfl 30 (.tmp 7) (.tmp 88) rfl rfl (B+1) rfl [za sz,za (st':Int),za sq1,za (hd':Int),za (us':Int)] [za sz,za st2,za sq,za hd,za us2] 30 rfl hlbb rfl (by kernel_rfl) (by simp[Value.oneCell']) ?_;intro Y6 hb6 hc6);have HY6:Hid (LgT W B T Y6 d' sz st' sq1 hd' us' (.slice pa pl pc) (.slice pa' pl' pc') h8 ts2 sq (.slice ta tn tc) (.slice ra rn rc) t):=by
         have kX: ∀(j:Nat) (cur:Array Value) (T':TypeId),T'≠30→Y5.heap[j]?=some (.cells cur T' (0,0))→Y6.heap[j]?=some (.cells cur T' (0,0)):=fun j cur T' hT hh=>(hc6.block j (gLt hh) (by
          have:j≠B+1:=fun e=>by rw[e,hlbb] at hh;cases hh;exact hT rfl
          omega)).trans hh
         obtain⟨es,o1,o2,o3,o4,o5,o6⟩:=HY5.out.ow;exact⟨HY5.out.lg.setL hb6 hc6,kX _ _ _ (by decide) HY5.out.tb,⟨es,o1.keep (fun j cur _ hh=>kX j cur _ (by decide) hh) (fun j cur _ hh=>kX j cur _ (by decide) hh),o2,o3,zH o4 (fun j cur _ hh=>kX j cur _ (by decide) hh),o5,o6⟩,HY5.out.apart⟩
        clear hlbb hb6 hc6 HY5;obtain⟨⟨k0,k1,k2⟩,_⟩:=tri HY6.out.tb;obtain⟨hs,rs,hrow⟩:=HY6.out.lg.tx;have hs6:=HY6.out.lg.ch.size;have how:=HY6.out.ow;have hts:ts2.length≤90000:=by
         by_cases hz:st2=0
         ·rw[(HLI2.out.z hz).2];simp
         ·have:=(HLI2.out.n hz).2.2;omega
        have eq9:=HGt.out.1;obtain⟨ha,hc9,rfl,-⟩:=hrow.at;obtain⟨tn2,Htn2⟩: ∃n,Hid (n=ts2.length):=⟨_,rfl⟩;rw[←Htn2.out] at hrow⊢;have et:(⟨(sq:Int),t.homes,t.revs⟩:Tx)=t:=by rw[←HGt.out.1]
        have Het:Hid ((⟨(sq:Int),t.homes,t.revs⟩:Tx)=t):=et;clear et;go_wp2_with (refine JO (t:=⟨(sq:Int),t.homes,t.revs⟩) rfl (.tmp 89) (.tmp 91) rfl W.heap.size (.slice ha tn2 hc9) ts2 hs rs rfl hrow hs6 rfl hts ⟨_,_,_,rfl⟩ ⟨_,_,_,rfl⟩ how ?_;intro g6 cp6 w6 hT6 c6 hk6);rw[Het.out] at hT6;go_meet;have cA:Chg 0 0 Y6 (Y6.alloc (.cells #[za sq,.slice ta tn tc,.slice ra rn rc] 35)):=Chg.alloc (Chg.refl 0 0 Y6) _
        have sA:=cA.size;have sB:=c6.size;exact⟨⟨st',sq1,hd',us',q0',F',d',_,_,ts2++ [t],by have:=Hsq1.out;omega,HLI'.out,HY6.out.lg.other ⟨_,_,hT6⟩ ((cA.widen (by omega) (by omega)).trans c6) hk6⟩⟩
       case rest=>
        obtain⟨st3,sq3,hd3,us3,q3,F3,d3,y0,y1,ts3,hsq3,hLI,hT⟩:=hcut.ex;generalize wc=w12 at*;have HLI3:Hid (LI d3 sz F3 st3 sq3 hd3 us3 q3 ts3):=hLI;obtain⟨h9,Hh9⟩: ∃h9,Hid (h9=u8):=⟨_,rfl⟩;rw[←Hh9.out] at hT⊢;have HT3:Hid (LgW W B w12 d3 sz st3 sq3 hd3 us3 y0 y1 h9 ts3):=hT;clear hcut hLI hT HLI2 HX2 Hrm Htl Hsr HGt;obtain⟨xa,xl,xc,ya,yl,yc,exy⟩:=qK.agg HT3.out.od;simp only[Value.agg.injEq,Array.mk.injEq,List.cons.injEq,and_true] at exy
        obtain⟨rfl,rfl⟩:=exy;have k0:w12.cell? (zd B)=some (.slice xa xl xc):=by have:=HT3.out.db;simp[World.cell?,this]
        have k1:w12.cell? ⟨B,1,none⟩=some (.slice ya yl yc):=by have:=HT3.out.db;simp[World.cell?,this]
        have hfit:d3.Fits:=by
         have hLg:=HLI3.out.log;exact⟨by have:=hLg.dur;have:=hLg.big;omega,by rw[hLg.pend];simp,by rw[hLg.pend];simp⟩
        have hDV:=qK.view HT3.out.od hfit;have hS:(st3=0∧ts3= [])∨(st3≠0∧ZV ((sz:Int)+2) (((sz+156:Nat):Int)-1) (win F3 sz (st3-1) sz) (q3:Int) ts3):=by
         by_cases hz:st3=0
         ·exact Or.inl ⟨hz,(HLI3.out.z hz).2⟩
         ·refine Or.inr ⟨hz,?_⟩;have:=HLI3.out.scan hz;rwa [show(sz:Int)+155=((sz+156:Nat):Int)-1 by omega] at this
        have HSC:Hid (Calls Tryz.prog 14 #[.agg #[.slice xa xl xc,.slice ya yl yc]] w12 fun e w'=> ∃tv,e= .returned (.agg #[za 0,za sz,za st3,za q3,tv])∧UU w' w12.heap.size tv ts3∧Chg 0 0 w12 w'):=NF w12 hDV HLI3.out.log hS (by have:=HLI3.out.qb;omega) (HG.out.1.chg HT3.out.ch (Or.inr HG.out.2.2.2)) (HG.out.2.1.chg HT3.out.ch (Or.inr HG.out.2.2.2)) (HG.out.2.2.1.chg HT3.out.ch (Or.inr HG.out.2.2.2)) (Nat.le_trans HG.out.2.2.2 HT3.out.ch.size)
        clear hfit hDV hS;go_wp2_with fail;refine HSC.out.mono ?_;rintro e w13 ⟨tv,rfl,hts3,c13'⟩;clear HSC k0 k1;obtain⟨fa,fl,fc,rfl⟩: ∃a l c,tv= .slice a l c:=by obtain⟨_,_,h⟩:=hts3;obtain⟨a,c,e,_⟩:=h.at;exact⟨a,_,c,e⟩
        have cF:Chg 0 0 w13 (w13.alloc (.cells #[za 0,za sz,za st3,za q3,.slice fa fl fc] 47)):=Chg.alloc (Chg.refl 0 0 w13) _;have HF:Hid (LgW W B (w13.alloc (.cells #[za 0,za sz,za st3,za q3,.slice fa fl fc] 47)) d3 sz st3 sq3 hd3 us3 (.slice xa xl xc) (.slice ya yl yc) h9 ts3∧UU (w13.alloc (.cells #[za 0,za sz,za st3,za q3,.slice fa fl fc] 47)) w12.heap.size (.slice fa fl fc) ts3∧(w13.alloc (.cells #[za 0,za sz,za st3,za q3,.slice fa fl fc] 47)).heap[w13.heap.size]?=some (.cells #[za 0,za sz,za st3,za q3,.slice fa fl fc] 47 (0,0))):=by
         obtain⟨hs9,rs9,h99⟩:=hts3;exact⟨(HT3.out.grow c13').grow cF,⟨hs9,rs9,h99.chg cF⟩,zh _ _⟩
        clear hts3 cF c13' HT3;go_upto_region 21 with fail;generalize w13.alloc (.cells #[za 0,za sz,za st3,za q3,.slice fa fl fc] 47)=w14 at*;generalize w13.heap.size=N13 at*;have f0:w14.cell? (zd N13)=some (za 0):=by have:=HF.out.2.2;simp[World.cell?,this]
        have f4:w14.cell? ⟨N13,4,none⟩=some (.slice fa fl fc):=by have:=HF.out.2.2;simp[World.cell?,this]
        have hts9:ts3.length≤1000:=by
         by_cases hz:st3=0
         ·rw[(HLI3.out.z hz).2];simp
         ·have:=(HLI3.out.n hz).2.2;omega
        have HSM:Hid (Calls Tryz.prog 15 #[h9,.slice fa fl fc] w14 fun e w'=>e= .returned (.bool true)∧Chg 0 0 w14 w'):=XL HF.out.1.tx HF.out.2.1 (fun t ht=>(HLI3.out.ok t ht).v) hts9;clear hts9;go_wp2_with fail;refine HSM.out.mono ?_;rintro e w15 ⟨rfl,c15⟩;have HF5:Hid (LgW W B w15 d3 sz st3 sq3 hd3 us3 (.slice xa xl xc) (.slice ya yl yc) h9 ts3):=HF.out.1.grow c15;clear HSM f0 f4 HF c15;have l0:w15.cell? (zd (B+1))=some (za sz):=by have:=HF5.out.lb;simp[World.cell?,this]
        have l1:w15.cell? ⟨B+1,1,none⟩=some (za st3):=by have:=HF5.out.lb;simp[World.cell?,this]
        have l2:w15.cell? ⟨B+1,2,none⟩=some (za sq3):=by have:=HF5.out.lb;simp[World.cell?,this]
        have l3:w15.cell? ⟨B+1,3,none⟩=some (za hd3):=by have:=HF5.out.lb;simp[World.cell?,this]
        have l4:w15.cell? ⟨B+1,4,none⟩=some (za us3):=by have:=HF5.out.lb;simp[World.cell?,this]
        go_wp2_with fail;refine(jn w15 sz st3 sq3 hd3 us3).mono ?_;rintro e w16 ⟨rfl,c16⟩;rw[HLI3.out.valid];have HF6:Hid (LgW W B w16 d3 sz st3 sq3 hd3 us3 (.slice xa xl xc) (.slice ya yl yc) h9 ts3):=HF5.out.grow c16;clear l0 l1 l2 l3 l4 c16 HF5;have l0:w16.cell? (zd (B+1))=some (za sz):=by have:=HF6.out.lb;simp[World.cell?,this]
        have hwi:IntKind.i64.wrap ((i:Int)+1)=((i+1:Nat):Int):=by rw[IntKind.wrap_i64];omega
        go_wp2;refine⟨⟨⟨i+1,st3,sq3,hd3,us3,q3,F3,d3,_,_,ts3,rfl,⟨by omega,by omega⟩,HLI3.out,HF6.out⟩⟩,?_⟩;show 30-((i:Int)+1).toNat<30-(i:Int).toNat;omega
end Go.Proofs.YtacjklochmelfaaGreatDoor
