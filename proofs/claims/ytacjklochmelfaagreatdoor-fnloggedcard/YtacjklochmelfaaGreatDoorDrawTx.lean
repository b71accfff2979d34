import Derived.Test.YtacjklochmelfaaGreatDoorCells2
import Derived.Test.YtacjklochmelfaaGreatDoorJTxn
import Derived.Deep.DeepCutAuto
namespace Go.Proofs.YtacjklochmelfaaGreatDoor
open Go.RowKit
set_option maxRecDepth 100000
set_option maxHeartbeats 16000000
theorem acO {S:ScW}{w0 w:World}{A:Nat}(h:EnW S w0 w A)(hA:A≤1000000000):
  Calls Tryz.prog 114 #[.pointer (some (zd S.p))] w fun e w'=> ∃g cap ys,e= .returned (.slice (some (zd g)) 64 cap)∧(Byt ys∧ys.length=64)∧zi w' w.heap.size 5 (.slice (some (zd g)) 64 cap) ys∧EnW S w0 w' (A+5):=by
 obtain⟨a,ha,hs⟩:=h.src;refine(Vh w S.p a S.sz h.byt h.len (by omega) hs h.view h.out).mono ?_;rintro e w' ⟨g,cap,ys,k,rfl,hb,hl,ho,hk,hs',c⟩;have ht:=h.top;refine⟨g,cap,ys,rfl,⟨hb,hl⟩,ho,⟨a+k,by omega,hs'⟩,h.view.chg c ?_,h.out,h.byt,h.len,h.chg.trans c,ht⟩;have:=h.out;omega
structure DT (S:ScW)(w0 w:World)(A:Nat)(q:Int)(t:Tx)(hv rv:Value):Prop where
 en:EnW S w0 w A
 rs:w.heap[w0.heap.size]?=some (.cells #[za 0,zc,zc] 35 (0,0))
 tb:w.heap[w0.heap.size+1]?=some (.cells #[za q,hv,rv] 35 (0,0))
 ow:qE w w0.heap.size hv rv t
theorem qE.chg {w w':World}{base l r:Nat}{hv rv:Value}{t:Tx}(h:qE w base hv rv t)(c:Chg l r w w')(d:r≤base∨r≤l∨w.heap.size≤l):qE w' base hv rv t:=
 h.keep (fun j cur T hj _ hh=>(c.block j (gLt hh) (by have:=(gLt hh);omega)).trans hh)
theorem DT.step {S:ScW}{w0 w w':World}{A A':Nat}{q:Int}{t:Tx}{hv rv:Value}(h:DT S w0 w A q t hv rv)(e:EnW S w w' A'):DT S w0 w' A' q t hv rv:=by
 have ht:=h.en.top;have c:=e.chg;have h1:=(gLt h.tb);exact⟨h.en.join e,(c.block _ (by omega) (by omega)).trans h.rs,(c.block _ (by omega) (by omega)).trans h.tb,h.ow.chg c (by omega)⟩
theorem DT.next {S:ScW}{w0 w:World}{A:Nat}{q:Int}{t:Tx}{hv rv:Value}(h:DT S w0 w A q t hv rv)(hA:A≤1000000000)(n:Int)(hn:n≤9223372036854775807):
  Calls Tryz.prog 78 #[.pointer (some (zd S.p)),za n] w fun e w'=> ∃r:Int,e= .returned (za r)∧0≤r∧(1≤n→r<n)∧DT S w0 w' (A+1) q t hv rv:=by
 refine(YZ h.en.self hA n hn).mono ?_;rintro e w' ⟨r,rfl,h1,h2,h3⟩;exact⟨r,rfl,h1,h2,h.step h3⟩
theorem DT.chance {S:ScW}{w0 w:World}{A:Nat}{q:Int}{t:Tx}{hv rv:Value}(h:DT S w0 w A q t hv rv)(hA:A≤1000000000)(n:Int)(hn:n≤9223372036854775807):
  Calls Tryz.prog 79 #[.pointer (some (zd S.p)),za n] w fun e w'=> ∃b:Bool,e= .returned (.bool b)∧DT S w0 w' (A+1) q t hv rv:=by
 refine(VN h.en.self hA n hn).mono ?_;rintro e w' ⟨r,rfl,h3⟩;exact⟨r,rfl,h.step h3⟩
theorem qj.more2 {w w1 w2:World}{base g cp n l r:Nat}{v dv:Value}{es:List Hv}{q:Int}{xs:List Int}(h:qj w base v es)(hb:base≤w.heap.size)(hd:zi w1 w.heap.size 5 dv xs)(c:Chg l r w w1)(hr:r≤base)
  (ho:Qd w2 base (.slice (some (zd g)) n cp) (es++ [(q,dv,xs)]))
  (hk: ∀(j:Nat) (cur:Array Value) (t:TypeId),t≠61→(w1.alloc (.cells #[za q,dv] 61)).heap[j]?=some (.cells cur t (0,0))→w2.heap[j]?=some (.cells cur t (0,0))):
  qj w2 base (.slice (some (zd g)) n cp) (es++ [(q,dv,xs)]):=by
 have cA:Chg 0 0 w1 (w1.alloc (.cells #[za q,dv] 61)):=Chg.alloc (Chg.refl 0 0 w1) _;refine⟨ho,fun e he=>?_,?_⟩
 ·rcases List.mem_append.1 he with r'|r'
  ·exact zi.keepH (((h.data e r').chg c (fun g hg=>by have:=((h.data e r').lt g hg).1;omega)).chg cA (fun g _=>by omega)) hk
  ·obtain rfl:=List.mem_singleton.1 r';exact zi.keepH ((hd.base (fun g hg=>by have:=(hd.lt g hg).1;omega)).chg cA (fun g _=>by omega)) hk
 ·refine List.pairwise_append.2 ⟨h.apart,List.pairwise_singleton _ _,fun a ha b hb' g h1 h2=>?_⟩;obtain rfl:=List.mem_singleton.1 hb';have:=((h.data a ha).lt g h1).2;have:=(hd.lt g h2).1;omega
theorem qE.homes_app {w w1 w2:World}{base g cp l r:Nat}{hv dv rv:Value}{t:Tx}{es:List Hv}{q:Int}{xs:List Int}(hes:qj w base hv es)(hmap:es.map (fun e=>(e.1,e.2.2))=t.homes)(h64: ∀e∈es,e.2.2.length=64∧Byt e.2.2)(hrv:zP w base 2 rv t.revs)(hrl:t.revs.length≤20000)(hel:es.length<10000)(hb:base≤w.heap.size)(hd:zi w1 w.heap.size 5 dv xs)(hx:Byt xs∧xs.length=64)(c:Chg l r w w1)(hr:r≤base)
  (ho:Qd w2 base (.slice (some (zd g)) (es.length+1) cp) (es++ [(q,dv,xs)])) (hg:(w1.alloc (.cells #[za q,dv] 61)).grownBy w2 hv.ownBlock):
  qE w2 base (.slice (some (zd g)) (es.length+1) cp) rv ⟨t.seq,t.homes++ [(q,xs)],t.revs⟩∧(∀(j:Nat) (cur:Array Value) (T:TypeId),T≠61→w1.heap[j]?=some (.cells cur T (0,0))→w2.heap[j]?=some (.cells cur T (0,0))):=by
 have cA:Chg 0 0 w1 (w1.alloc (.cells #[za q,dv] 61)):=Chg.alloc (Chg.refl 0 0 w1) _;have hO:=(hes.row.chg c (by omega)).chg cA (by omega);have hk:=zU.grownE hg hO;have hk1: ∀(j:Nat) (cur:Array Value) (T:TypeId),T≠61→w1.heap[j]?=some (.cells cur T (0,0))→w2.heap[j]?=some (.cells cur T (0,0)):=fun j cur T hT hh=>hk j cur T hT ((cA.block j (gLt hh) (by omega)).trans hh);refine⟨⟨es++ [(q,dv,xs)],qj.more2 hes hb hd c hr ho hk,?_,?_,?_,hrl,?_⟩,hk1⟩
 ·rw[List.map_append,hmap];rfl
 ·intro e he;rcases List.mem_append.1 he with r'|r'
  ·exact h64 e r'
  ·rw[List.mem_singleton.1 r'];exact⟨hx.2,hx.1⟩
 ·refine zH hrv (fun j cur hj hh=>hk1 j cur _ (by decide) ((c.block j (gLt hh) (by omega)).trans hh))
 ·rw[List.length_append,List.length_singleton];omega
structure C8 (S:ScW)(w:World)(A M:Nat)(q:Int)(x:Value)(wx:World):Prop where
 ex: ∃a:Nat,x=za a∧a≤M∧DT S w wx A q ⟨q,[],[]⟩ (zc) (zc)
structure D50 (S:ScW)(w:World)(A:Nat)(q:Int)(x:Value)(wx:World):Prop where
 ex: ∃b:Bool,x= .bool b∧DT S w wx A q ⟨q,[],[]⟩ (zc) (zc)
theorem DT.up {S:ScW}{w0 w:World}{A A':Nat}{q:Int}{t:Tx}{hv rv:Value}(h:DT S w0 w A q t hv rv)(hA:A≤A'):DT S w0 w A' q t hv rv:=⟨h.en.mono hA,h.rs,h.tb,h.ow⟩
structure DrI (S:ScW)(w0:World)(A:Nat)(q:Int)(x8 x9 x11:Value)(w:World):Prop where
 ex: ∃(a b:Nat) (m:Int) (t:Tx) (hv rv:Value),x8=za a∧x9=za b∧x11=za m∧DT S w0 w (A+9+8*(300-(a+b))) q t hv rv∧t.homes.length+a≤200∧t.revs.length+b≤100
structure D81 (S:ScW)(w:World)(A a b:Nat)(q:Int)(t:Tx)(hv rv:Value)(x:Value)(wx:World):Prop where
 ex: ∃c:Bool,x= .bool c∧(c=true→0<b)∧(c=false→0<a)∧DT S w wx A q t hv rv
structure D67 (S:ScW)(w:World)(A:Nat)(q:Int)(t:Tx)(hv rv:Value)(x:Value)(wx:World):Prop where
 ex: ∃b:Bool,x= .bool b∧DT S w wx A q t hv rv
structure D11 (S:ScW)(w:World)(A:Nat)(q:Int)(t:Tx)(hv rv:Value)(x:Value)(wx:World):Prop where
 ex: ∃m:Int,x=za m∧DT S w wx A q t hv rv
def adu (S:ScW) (w w':World) (A:Nat) (q:Int) (e:Ending):Prop:= ∃hv rv t,e= .returned (.agg #[za q,hv,rv])∧qE w' w.heap.size hv rv t∧(t.homes.length≤200∧t.revs.length≤100)∧EnW S w w' A
theorem Vc {S:ScW}{w:World}{A:Nat}(h:EnW S w w A)(hA:A≤100000000)(q fr:Int):
  Calls Tryz.prog 77 #[.pointer (some (zd S.p)),za q,za fr] w fun e w'=>adu S w w' (A+10000) q e:=by
 have ht:=h.top;obtain⟨z1,z2,z3⟩:=zN w (.cells #[za 0,zc,zc] 35) (.cells #[za q,zc,zc] 35);have cA:Chg 0 0 w ((w.alloc (.cells #[za 0,zc,zc] 35)).alloc (.cells #[za q,zc,zc] 35)):=(Chg.alloc (Chg.refl 0 0 w) _).alloc _;have hD0:DT S w ((w.alloc (.cells #[za 0,zc,zc] 35)).alloc (.cells #[za q,zc,zc] 35)) A q ⟨q,[],[]⟩ (zc) (zc):=
  ⟨h.keep cA,z2,z3,[],qj.zero _ _,rfl,by simp,⟨rfl,Or.inl ⟨rfl,rfl⟩⟩,by simp,by simp⟩
 clear z1 z2 z3 cA h;go_enter Tryz.func77,Tryz.ntmps77;go_wp2_with fail;generalize (w.alloc (.cells #[za 0,zc,zc] 35)).alloc (.cells #[za q,zc,zc] 35)=w1 at*;refine(hD0.next (by omega) 5 (by omega)).mono ?_;rintro e w2 ⟨r1,rfl,r10,r11,hD1⟩;clear hD0;go_wp2_with fail;refine(hD1.next (by omega) 4 (by omega)).mono ?_;rintro e w3 ⟨r2,rfl,r20,r21,hD2⟩;clear hD1;go_wp2_with fail;refine(hD2.next (by omega) 24 (by omega)).mono ?_
 rintro e w4 ⟨k,rfl,k0,k1,hD3⟩;clear hD2;obtain⟨a,rfl⟩: ∃a:Nat,r1=(a:Int):=⟨r1.toNat,by omega⟩;obtain⟨b,rfl⟩: ∃b:Nat,r2=(b:Int):=⟨r2.toNat,by omega⟩;have HD3:Hid (DT S w w4 (A+1+1+1) q ⟨q,[],[]⟩ (zc) (zc)):=hD3;have hab:a≤4∧b≤3:=by omega
 clear hD3 r10 r11 r20 r21;go_upto_if 21 with fail;go_cut [8] (fun x wx=>C8 S w (A+4) 200 q x wx)
 case first=>
  by_cases hk:k=0
  ·subst hk;go_wp2_with fail;refine(HD3.out.next (by omega) 4 (by omega)).mono ?_;rintro e wx ⟨r,rfl,r0,r1,hD⟩;obtain⟨r',rfl⟩: ∃r':Nat,r=(r':Int):=⟨r.toNat,by omega⟩;have HDx:Hid (DT S w wx (A+3+1) q ⟨q,[],[]⟩ (zc) (zc)):=hD;have hw:IntKind.i64.wrap (16+(r':Int))=((16+r':Nat):Int):=by rw[IntKind.wrap_i64];omega
   clear hD;go_wp2;go_meet;exact⟨⟨16+r',by congr 1,by omega,HDx.out⟩⟩
  ·have hkf:(k==0)=false:=by simpa using hk
   go_wp2;go_meet;exact⟨⟨a,rfl,by omega,HD3.out.up (by omega)⟩⟩
 case rest=>
  obtain⟨a,rfl,ha4,hD4⟩:=hcut.ex;generalize wc=wq at*;have HD4:Hid (DT S w wq (A+4) q ⟨q,[],[]⟩ (zc) (zc)):=hD4;clear hcut hD4 HD3;have hb4:b≤100:=by omega
  clear hab;go_upto_if 26 with fail;go_cut [9] (fun x wx=>C8 S w (A+5) 100 q x wx)
  case first=>
   by_cases hk:k=1
   ·subst hk;go_wp2_with fail;refine(HD4.out.next (by omega) 4 (by omega)).mono ?_;rintro e wx ⟨r,rfl,r0,r1,hD⟩;obtain⟨r',rfl⟩: ∃r':Nat,r=(r':Int):=⟨r.toNat,by omega⟩;have HDx:Hid (DT S w wx (A+4+1) q ⟨q,[],[]⟩ (zc) (zc)):=hD;have hw:IntKind.i64.wrap (25+(r':Int))=((25+r':Nat):Int):=by rw[IntKind.wrap_i64];omega
    clear hD;go_wp2;go_meet;exact⟨⟨25+r',by congr 1,by omega,HDx.out⟩⟩
   ·have hkf:(k==1)=false:=by simpa using hk
    go_wp2;go_meet;exact⟨⟨b,rfl,by omega,HD4.out.up (by omega)⟩⟩
  case rest=>
   obtain⟨b,rfl,hb5,hD5⟩:=hcut.ex;generalize wc=wq at*;have HD5:Hid (DT S w wq (A+5) q ⟨q,[],[]⟩ (zc) (zc)):=hD5;clear hcut hD5 HD4;go_upto_if 31 with fail;go_cut [8] (fun x wx=>C8 S w (A+6) 200 q x wx)
   case first=>
    by_cases hk:k=2
    ·subst hk;go_wp2_with fail;refine(HD5.out.next (by omega) 3 (by omega)).mono ?_;rintro e wx ⟨r,rfl,r0,r1,hD⟩;obtain⟨r',rfl⟩: ∃r':Nat,r=(r':Int):=⟨r.toNat,by omega⟩;have HDx:Hid (DT S w wx (A+5+1) q ⟨q,[],[]⟩ (zc) (zc)):=hD;have hw:IntKind.i64.wrap (33+(r':Int))=((33+r':Nat):Int):=by rw[IntKind.wrap_i64];omega
     clear hD;go_wp2;go_meet;exact⟨⟨33+r',by congr 1,by omega,HDx.out⟩⟩
    ·have hkf:(k==2)=false:=by simpa using hk
     go_wp2;go_meet;exact⟨⟨a,rfl,by omega,HD5.out.up (by omega)⟩⟩
   case rest=>
    obtain⟨a,rfl,ha6,hD6⟩:=hcut.ex;generalize wc=wq at*;have HD6:Hid (DT S w wq (A+6) q ⟨q,[],[]⟩ (zc) (zc)):=hD6;clear hcut hD6 HD5;go_upto_if 36 with fail;go_cut [8] (fun x wx=>C8 S w (A+7) 200 q x wx)
    case first=>
     by_cases hk:k=3
     ·subst hk;go_wp2_with fail;refine(HD6.out.next (by omega) 2 (by omega)).mono ?_;rintro e wx ⟨r,rfl,r0,r1,hD⟩;obtain⟨r',rfl⟩: ∃r':Nat,r=(r':Int):=⟨r.toNat,by omega⟩;have HDx:Hid (DT S w wx (A+6+1) q ⟨q,[],[]⟩ (zc) (zc)):=hD;have hw:IntKind.i64.wrap (128-(b:Int))=((128-b:Nat):Int):=by rw[IntKind.wrap_i64];omega
      have hw2:IntKind.i64.wrap (((128-b:Nat):Int)+(r':Int))=((128-b+r':Nat):Int):=by rw[IntKind.wrap_i64];omega
      clear hD;go_wp2;go_meet;exact⟨⟨128-b+r',by congr 1;omega,by omega,HDx.out⟩⟩
     ·have hkf:(k==3)=false:=by simpa using hk
      go_wp2;go_meet;exact⟨⟨a,rfl,by omega,HD6.out.up (by omega)⟩⟩
    case rest=>
     obtain⟨a,rfl,ha7,hD7⟩:=hcut.ex;generalize wc=wq at*;have HD7:Hid (DT S w wq (A+7) q ⟨q,[],[]⟩ (zc) (zc)):=hD7;clear hcut hD7 HD6;go_upto_region 13 with fail;go_cut [50] (fun x wx=>D50 S w (A+8) q x wx)
     case first=>
      have hwab:IntKind.i64.wrap ((a:Int)+(b:Int))=((a+b:Nat):Int):=by rw[IntKind.wrap_i64];omega
      by_cases h0:a+b=0
      ·have h0':(((a+b:Nat):Int)==0)=true:=by simp;omega
       go_wp2_with (go_at_call 79;refine(HD7.out.chance (by omega) 20 (by omega)).mono ?_;rintro e wx ⟨bb,rfl,hDc⟩);go_meet;exact⟨⟨_,rfl,hDc⟩⟩
      ·have h0':(((a+b:Nat):Int)==0)=false:=by simp;omega
       have hup:=HD7.out.up (show A+7≤A+8 by omega);have Hup:Hid (DT S w wq (A+8) q ⟨q,[],[]⟩ (zc) (zc)):=hup;clear hup;go_wp2;go_meet;exact⟨⟨_,rfl,Hup.out⟩⟩
     case rest=>
      obtain⟨bb,rfl,hD8⟩:=hcut.ex;generalize wc=wq at*;have HD8:Hid (DT S w wq (A+8) q ⟨q,[],[]⟩ (zc) (zc)):=hD8;clear hcut hD8 HD7;go_upto_if 50 with fail;go_cut [8] (fun x wx=>C8 S w (A+8) 200 q x wx)
      case first=>
       cases bb
       ·go_wp2;go_meet;exact⟨⟨a,rfl,by omega,HD8.out⟩⟩
       ·go_wp2;go_meet;exact⟨⟨1,rfl,by omega,HD8.out⟩⟩
      case rest=>
       obtain⟨a,rfl,ha8,hD9⟩:=hcut.ex;generalize wc=wq at*;have HD9:Hid (DT S w wq (A+8) q ⟨q,[],[]⟩ (zc) (zc)):=hD9;have hb9:b≤100:=by omega
       clear hcut hD9 HD8;go_wp2;go_loopw [8,9,11] (fun x8 x9 x11 wr=>DrI S w A q x8 x9 x11 wr) (fun x8 x9 _ _=>(intOf x8).toNat+(intOf x9).toNat)
       case atStart=>exact⟨⟨a,b,fr,⟨q,[],[]⟩,_,_,rfl,rfl,rfl,HD9.out.up (by omega),by simpa using ha8,by simpa using hb9⟩⟩
       case round=>
        clear HD9 ha8 hb9;obtain⟨a,b,m,t,hv,rv,rfl,rfl,rfl,hD,hNa,hNb⟩:=hrel.ex;obtain⟨es,ho1,ho2,ho3,ho4,ho5,ho6⟩:=hD.ow;obtain⟨ha,hn,hc,rfl⟩:=ho1.slice;obtain⟨ra,rc,rfl⟩:=ho4.shape;have heslen:es.length=t.homes.length:=by rw[←ho2,List.length_map]
        have Ho1:Hid (qj wr w.heap.size (.slice ha hn hc) es):=ho1;have Ho2:Hid (es.map (fun e=>(e.1,e.2.2))=t.homes):=ho2;have Ho3:Hid (∀e∈es,e.2.2.length=64∧Byt e.2.2):=ho3;obtain⟨rn,hrn⟩: ∃rn,rn=t.revs.length:=⟨_,rfl⟩;have Hrn:Hid (rn=t.revs.length):=hrn;rw[←hrn] at hD hNb;have HD:Hid (DT S w wr (A+9+8*(300-(a+b))) q t (.slice ha hn hc) (.slice ra rn rc)):=hD;have hHl:es.length+a≤200:=by omega
        obtain⟨⟨t0,t1,t2⟩,_⟩:=tri hD.tb;have htl:=(gLt hD.tb);clear hD ho1 ho2 ho3 ho4 ho5 ho6 hrn heslen hNa;by_cases h0:a+b=0
        ·obtain rfl:a=0:=by omega
         obtain rfl:b=0:=by omega
         go_wp2_with (refine wpList_store_row rfl 35 (.tmp 6) (.tmp 101) rfl rfl w.heap.size rfl [za q,.slice ha hn hc,.slice ra rn rc] [za 0,zc,zc] 35 rfl HD.out.rs rfl (by kernel_rfl) (by simp[Value.oneCell']) ?_;intro wf hbf hcf);have hl1:(loadVar 35 (zd w.heap.size)).run Tryz.prog wf= .ok (.agg (List.toArray [za q,.slice ha hn hc,.slice ra rn rc])) wf:=run_loadVar_mid _ _ _ _ [za q,.slice ha hn hc,.slice ra rn rc] _ (zj hbf) Tryz.underlying35 rfl (by kernel_rfl)
         refine bodyPost_ret (zu Tryz.results77 rfl hl1) rfl ⟨_,_,t,rfl,?_,?_,?_⟩
         ·exact HD.out.ow.keep (fun j cur T _ hT hh=>(hcf.block j (gLt hh) (by
           have:j≠w.heap.size:=fun e=>by rw[e,HD.out.rs] at hh;cases hh;exact hT rfl
           omega)).trans hh)
         ·exact⟨by rw[←Ho2.out,List.length_map];omega,by rw[←Hrn.out];omega⟩
         ·exact(HD.out.en.own hcf (Nat.le_refl _)).mono (by omega)
        ·have g16:((0:Int)<(a:Int))∨((0:Int)<(b:Int)):=by omega
         go_upto_region 16 with fail;go_cut [57] from 52 to 100 (fun x wx=>x= .bool true∧wx=wr)
         case first=>
          by_cases ha0:(0:Int)<(a:Int)
          ·have hd0:decide ((0:Int)<(a:Int))=true:=decide_eq_true ha0;go_wp2;go_meet;exact⟨rfl,rfl⟩
          ·obtain rfl:a=0:=by omega
           have hb0:(0:Int)<(b:Int):=by omega
           go_wp2;go_meet;exact⟨by congr 1;simp;omega,rfl⟩
         case rest=>
          obtain⟨rfl,rfl⟩:=hcut;have hwab:IntKind.i64.wrap ((a:Int)+(b:Int))=((a+b:Nat):Int):=by rw[IntKind.wrap_i64];omega
          have hchA:A+9+8*(300-(a+b))≤999999000:=by omega
          obtain⟨A0,HA0⟩: ∃A0,Hid (A0=A+9+8*(300-(a+b))):=⟨_,rfl⟩;rw[←HA0.out] at HD hchA;go_upto_region 18 with fail;go_cut [67] from 52 to 100 (fun x wx=>D67 S w (A0+1) q t (.slice ha hn hc) (.slice ra rn rc) x wx)
          case first=>
           go_wp2_with (go_at_call 79;refine(HD.out.chance (by omega) 3 (by omega)).mono ?_;rintro e wx ⟨bb,rfl,hDc⟩;cases bb)
           all_goals go_meet
           all_goals exact⟨⟨_,rfl,hDc⟩⟩
          case rest=>
           obtain⟨c67,rfl,hD67⟩:=hcut.ex;generalize wc=w67 at*;have HD67:Hid (DT S w w67 (A0+1) q t (.slice ha hn hc) (.slice ra rn rc)):=hD67;clear hcut hD67 HD Ho1 t0 t1 t2;go_upto_if 67 with fail;go_cut [11] from 52 to 100 (fun x wx=>D11 S w (A0+2) q t (.slice ha hn hc) (.slice ra rn rc) x wx)
           case first=>
            cases c67
            ·go_wp2;go_meet;exact⟨⟨_,rfl,HD67.out.up (by omega)⟩⟩
            ·go_wp2_with (go_at_call 78;refine(HD67.out.next (by omega) 3 (by omega)).mono ?_;rintro e wx ⟨r,rfl,r0,r1,hDc⟩);go_meet;exact⟨⟨_,rfl,hDc⟩⟩
           case rest=>
            obtain⟨m11,rfl,hD11⟩:=hcut.ex;generalize wc=w11 at*;have HD11:Hid (DT S w w11 (A0+2) q t (.slice ha hn hc) (.slice ra rn rc)):=hD11;clear hcut hD11 HD67;go_upto_region 20 with fail;go_cut [81] from 52 to 100 (fun x wx=>D81 S w (A0+3) a b q t (.slice ha hn hc) (.slice ra rn rc) x wx)
            case first=>
             by_cases hb0:b=0
             ·subst hb0;go_wp2;go_meet;exact⟨⟨_,rfl,by simp,fun _=>by omega,HD11.out.up (by omega)⟩⟩
             ·have hb1:decide ((0:Int)<(b:Int))=true:=decide_eq_true (by omega);by_cases ha0:a=0
              ·subst ha0;go_wp2;go_meet;exact⟨⟨_,rfl,fun _=>by omega,by simp,HD11.out.up (by omega)⟩⟩
              ·have ha1:((a:Int)==0)=false:=by simp;omega
               go_wp2_with (go_at_call 79;refine(HD11.out.chance (by omega) 3 (by omega)).mono ?_;rintro e wx ⟨bb,rfl,hDc⟩;cases bb)
               all_goals go_meet
               all_goals exact⟨⟨_,rfl,fun _=>by omega,fun _=>by omega,hDc⟩⟩
            case rest=>
             obtain⟨c81,rfl,h81b,h81a,hD81⟩:=hcut.ex;generalize wc=w81 at*;have HD81:Hid (DT S w w81 (A0+3) q t (.slice ha hn hc) (.slice ra rn rc)):=hD81;obtain⟨⟨t0,t1,t2⟩,ft⟩:=tri hD81.tb;clear hcut hD81 HD11;have hsz81:=(gLt HD81.out.tb);have htop:=HD81.out.en.top
             cases c81
             ·have ha1:=h81a rfl;clear h81a h81b t0 t1 t2 ft;obtain⟨es,ho1,ho2,ho3,ho4,ho5,ho6⟩:=HD81.out.ow;have heslen:es.length=t.homes.length:=by rw[←ho2,List.length_map]
              have Hes:Hid (((qj w81 w.heap.size (.slice ha hn hc) es∧es.map (fun e=>(e.1,e.2.2))=t.homes)∧(∀e∈es,e.2.2.length=64∧Byt e.2.2)∧zP w81 w.heap.size 2 (.slice ra rn rc) t.revs)∧t.revs.length≤20000∧es.length=t.homes.length):=⟨⟨⟨ho1,ho2⟩,ho3,ho4⟩,ho5,heslen⟩;clear ho1 ho2 ho3 ho4 ho5 ho6 heslen;have hel:es.length+a≤200:=by rw[Hes.out.2.2,←Ho2.out,List.length_map];omega
              have HS:Hid ((fun w':World=>w'.heap[w.heap.size+1]?=some (.cells #[za q,.slice ha hn hc,.slice ra rn rc] 35 (0,0))) w81.drew):=HD81.out.tb;go_wp2;refine zW 9 (fun w':World=>w'.heap[w.heap.size+1]?=some (.cells #[za q,.slice ha hn hc,.slice ra rn rc] 35 (0,0))) (by kernel_rfl) ?_;have cd:Chg 0 0 w81 w81.drew:=Chg.drew (Chg.refl 0 0 w81);have HDd:Hid (DT S w w81.drew (A0+3) q t (.slice ha hn hc) (.slice ra rn rc)):=⟨HD81.out.en.keep cd,HD81.out.rs,HD81.out.tb,HD81.out.ow.chg cd (by omega)⟩
              have Hed:Hid (qj w81.drew w.heap.size (.slice ha hn hc) es∧zP w81.drew w.heap.size 2 (.slice ra rn rc) t.revs):=⟨Hes.out.1.1.1.chg cd (by omega),Hes.out.1.2.2⟩;have hsd:w81.heap.size≤w81.drew.heap.size:=Nat.le_refl _;clear cd;generalize w81.drew=X at*;refine wTk 0 (.pointer (some ⟨w.heap.size+1,1,none⟩)) rfl (fun w' hw'=>by go_simp) HS.out ?_;go_simp;refine wTk 1 (.slice ha hn hc) rfl (fun w' hw'=>by obtain⟨⟨h0,h1,h2⟩,_⟩:=tri hw';go_simp) HS.out ?_
              go_simp;refine wTk 2 (za m11) rfl (fun w' hw'=>by go_simp) HS.out ?_;go_simp;refine wTk 3 (.pointer (some (zd S.p))) rfl (fun w' hw'=>by go_simp) HS.out ?_;go_simp;refine zq 4 rfl rfl (by kernel_rfl) ?_;refine zl 114 #[.pointer (some (zd S.p))] (by first|kernel_rfl|go_simp) (acO HDd.out.en.self (by omega)) ?_;rintro e X2 ⟨g6,cap6,ys,rfl,hys,o6,en6⟩;have hD6:=HDd.out.step en6;have HS6:Hid ((fun w':World=>w'.heap[w.heap.size+1]?=some (.cells #[za q,.slice ha hn hc,.slice ra rn rc] 35 (0,0))) X2):=hD6.tb
              have s6:=en6.chg.size;refine⟨_,rfl,fun _=>HS6.out,?_⟩;go_simp;refine wTk 5 (.agg #[za m11,.slice (some (zd g6)) 64 cap6]) rfl (fun w' hw'=>by go_simp) HS6.out ?_;go_simp;refine zq 6 rfl rfl (by kernel_rfl) ?_;obtain⟨ic,hic,hcz0,hcz1,hcz2⟩:=info_parts Tryz.infoH;refine wp_buildSlice 32 61 1 #[(0,.tmp 95)] rfl #[za m11,.slice (some (zd g6)) 64 cap6] ic _ Tryz.underlying32 hic hcz0 (by rw[hcz1];decide) (by rw[hcz1];decide) (by rw[hcz1,Array.toList_map];refine Qo 2 _ ?_ [za m11,.slice (some (zd g6)) 64 cap6] rfl;simp) ?_
              have c7:Chg 0 0 X2 (X2.alloc (.cells #[za m11,.slice (some (zd g6)) 64 cap6] 61)):=Chg.alloc (Chg.refl 0 0 X2) _;have HS7:Hid ((fun w':World=>w'.heap[w.heap.size+1]?=some (.cells #[za q,.slice ha hn hc,.slice ra rn rc] 35 (0,0))) (X2.alloc (.cells #[za m11,.slice (some (zd g6)) 64 cap6] 61))):=(c7.block _ (by omega) (by omega)).trans HS6.out;refine⟨fun _=>HS7.out,?_⟩;go_simp;refine zq 7 rfl rfl (by kernel_rfl) ?_
              refine XZ ys (.tmp 91) (.tmp 96) rfl w.heap.size (.slice ha hn hc) es rfl (Hed.out.1.row.chg en6.chg (by omega)) (by omega) rfl (by omega) ⟨_,_,_,rfl⟩ ?_;intro g8 cp8 X8 o8 gr8;obtain⟨hT8,hk8⟩:=qE.homes_app Hed.out.1 Hes.out.1.1.2 Hes.out.1.2.1 Hed.out.2 Hes.out.2.1 (by omega) (by omega) o6 hys en6.chg (by omega) o8 gr8;have hS8:=hk8 _ _ _ (by decide) HS6.out;have HS8:Hid ((fun w':World=>w'.heap[w.heap.size+1]?=some (.cells #[za q,.slice ha hn hc,.slice ra rn rc] 35 (0,0))) X8):=hS8
              obtain⟨⟨u0,u1,u2⟩,fu0,fu1,fu2⟩:=tri hS8;have s8:=gr8.size;have s7:=c7.size;have hr8:=hk8 _ _ _ (by decide) hD6.rs;have cY:Chg (w.heap.size+1) (w.heap.size+2) X8 (X8.setCell ⟨w.heap.size+1,1,none⟩ (.slice (some (zd g8)) (es.length+1) cp8)):=(Chg.refl _ _ X8).setCell (p:=⟨w.heap.size+1,1,none⟩) (Or.inl (by simp)) _;have HF:Hid (DT S w (X8.setCell ⟨w.heap.size+1,1,none⟩ (.slice (some (zd g8)) (es.length+1) cp8)) (A0+8) q ⟨t.seq,t.homes++ [(m11,ys)],t.revs⟩ (.slice (some (zd g8)) (es.length+1) cp8) (.slice ra rn rc)):=by
               have cg:Chg w.heap.size X8.heap.size X2 X8:=(Chg.ofGrown (w:=X2.alloc (.cells #[za m11,.slice (some (zd g6)) 64 cap6] 61)) gr8 (fun k hk hlt=>⟨(World.ownsRow.lt ((Hed.out.1.row.chg en6.chg (by omega)).chg c7 (by omega)) k hk).1,by omega⟩))|>fun c=>(c7.widen (by omega) (by omega)).trans c;refine⟨((hD6.en.own cg (Nat.le_refl _)).own cY (by omega)).mono (by omega),(cY.block _ (by omega) (by omega)).trans hr8,js hS8 _,hT8.keep (fun j cur T _ hT hh=>(cY.block j (gLt hh) (by
                have:j≠w.heap.size+1:=fun e=>by rw[e,hS8] at hh;cases hh;exact hT rfl
                omega)).trans hh)⟩
              refine⟨fun _=>HS8.out,?_⟩;clear hT8 hk8 gr8 o8 c7 o6 en6 hr8 cY hD6;have hS8':=HS8.out;go_simp;refine zq 8 rfl rfl (by kernel_rfl) ?_;go_simp;refine zq 9 rfl rfl (by kernel_rfl) ?_;go_simp;refine qi (by kernel_rfl) (NoPanic.normal ?_);have hwa:IntKind.i64.wrap ((a:Int)-1)=((a-1:Nat):Int):=by rw[IntKind.wrap_i64];omega
              clear u0 u1 u2 fu0 fu1 fu2 hS8 hS8' HS HS6 HS7 HS8;generalize X8.setCell ⟨w.heap.size+1,1,none⟩ (.slice (some (zd g8)) (es.length+1) cp8)=Y at*;go_wp2;go_roundw
              case rel=>
               refine⟨⟨a-1,b,m11,_,_,_,rfl,rfl,rfl,HF.out.up (by have:=HA0.out;omega),?_,by rw[←Hrn.out];omega⟩⟩;rw[List.length_append,List.length_singleton,←Hes.out.2.2];omega
              case measure=>simp[intOf];omega
             ·have hb1:=h81b rfl;clear h81a h81b;obtain⟨es,ho1,ho2,ho3,ho4,ho5,ho6⟩:=HD81.out.ow;have Hes:Hid ((((qj w81 w.heap.size (.slice ha hn hc) es∧es.map (fun e=>(e.1,e.2.2))=t.homes)∧(∀e∈es,e.2.2.length=64∧Byt e.2.2)∧zP w81 w.heap.size 2 (.slice ra rn rc) t.revs)∧t.revs.length≤20000)∧es.length≤10000):=⟨⟨⟨⟨ho1,ho2⟩,ho3,ho4⟩,ho5⟩,ho6⟩;clear ho1 ho2 ho3 ho4 ho5 ho6;have cz:Chg 0 0 w81 (w81.alloc (.cells #[za m11] 2)):=Chg.alloc (Chg.refl 0 0 w81) _
              have zz:=zh w81 (.cells #[za m11] 2);have sz9:=cz.size;have hvw:zr (w81.alloc (.cells #[za m11] 2)) 0 (w81.heap.size+1) .i64 (.slice (some (zd w81.heap.size)) 1 1) [m11]:=⟨_,1,rfl,by simp,⟨by simp,by simp⟩,Or.inr ⟨w81.heap.size,0,rfl,Nat.zero_le _,Nat.lt_succ_self _,fun i hi=>by
               obtain rfl:i=0:=by simpa using hi
               exact Boxed.cell zz⟩⟩
              have Hvw:Hid (zr (w81.alloc (.cells #[za m11] 2)) 0 (w81.heap.size+1) .i64 (.slice (some (zd w81.heap.size)) 1 1) [m11]):=hvw;have HOz:Hid (zP (w81.alloc (.cells #[za m11] 2)) w.heap.size 2 (.slice ra rn rc) t.revs):=Hes.out.1.1.2.2.chg cz (fun g _=>by omega);have Hcz:Hid (Chg 0 0 w81 (w81.alloc (.cells #[za m11] 2))):=cz;have hrl:t.revs.length≤100:=by rw[←Hrn.out];omega
              have Hfr:Hid (∀(X8:World) (v':Value),zP X8 w.heap.size 2 v' (t.revs++ [m11])→(w81.alloc (.cells #[za m11] 2)).grownBy X8 (Value.slice ra rn rc).ownBlock→X8.heap[w.heap.size+1]?=some (.cells #[za q,.slice ha hn hc,.slice ra rn rc] 35 (0,0))∧DT S w (X8.setCell ⟨w.heap.size+1,2,none⟩ v') (A0+3) q ⟨t.seq,t.homes,t.revs++ [m11]⟩ (.slice ha hn hc) v'):=by
               intro X8 v' o8 gr8;have hk:=zU.grownE gr8 HOz.out;have hk1: ∀(j:Nat) (cur:Array Value) (T:TypeId),T≠2→w81.heap[j]?=some (.cells cur T (0,0))→X8.heap[j]?=some (.cells cur T (0,0)):=fun j cur T hT hh=>hk j cur T hT ((Hcz.out.block j (gLt hh) (by omega)).trans hh);have hS8:=hk1 _ _ _ (by decide) HD81.out.tb;have hr8:=hk1 _ _ _ (by decide) HD81.out.rs;have s8:=gr8.size;have cY:Chg (w.heap.size+1) (w.heap.size+2) X8 (X8.setCell ⟨w.heap.size+1,2,none⟩ v'):=(Chg.refl _ _ X8).setCell (p:=⟨w.heap.size+1,2,none⟩) (Or.inl (by simp)) _
               have cg:Chg w.heap.size X8.heap.size w81 X8:=(Hcz.out.widen (by omega) (by omega)).trans (Chg.ofGrown gr8 (fun k hk hlt=>⟨(World.ownsRow.lt HOz.out k hk).1,by omega⟩));have hT8:qE X8 w.heap.size (.slice ha hn hc) v' ⟨t.seq,t.homes,t.revs++ [m11]⟩:=⟨es,Hes.out.1.1.1.1.keep (fun j cur _ hh=>hk1 j cur _ (by decide) hh) (fun j cur _ hh=>hk1 j cur _ (by decide) hh),Hes.out.1.1.1.2,Hes.out.1.1.2.1,o8,by rw[List.length_append,List.length_singleton];omega,Hes.out.2⟩
               refine⟨hS8,((HD81.out.en.own cg (Nat.le_refl _)).own cY (by omega)),(cY.block _ (by omega) (by omega)).trans hr8,js hS8 _,hT8.keep (fun j cur T _ hT hh=>(cY.block j (gLt hh) (by
                have:j≠w.heap.size+1:=fun e=>by rw[e,hS8] at hh;cases hh;exact hT rfl
                omega)).trans hh)⟩
              clear cz zz hvw;go_upto_region 22 with(refine wpList_plain rfl fun K hK=>?_;refine ZO (.tmp 83) (.tmp 85) rfl w.heap.size (.slice ra rn rc) t.revs rfl HOz.out (by omega) 0 (w81.heap.size+1) (.slice (some (zd w81.heap.size)) 1 1) [m11] rfl Hvw.out (by simp) (by simp;omega) ?_;intro v' X8 o8 gr8;obtain⟨va,vc,rfl⟩:=o8.shape;obtain⟨hS8,hF8⟩:=Hfr.out X8 _ o8 gr8;obtain⟨⟨u0,u1,u2⟩,fu0,fu1,fu2⟩:=tri hS8;clear o8 gr8 hS8;refine hK _ _ ?_)
              rw[List.length_append,List.length_singleton] at hF8;have HF:Hid (DT S w (X8.setCell ⟨w.heap.size+1,2,none⟩ (.slice va (t.revs.length+1) vc)) (A0+3) q ⟨t.seq,t.homes,t.revs++ [m11]⟩ (.slice ha hn hc) (.slice va (t.revs.length+1) vc)):=hF8;have hwb:IntKind.i64.wrap ((b:Int)-1)=((b-1:Nat):Int):=by rw[IntKind.wrap_i64];omega
              clear u0 u1 u2 fu0 fu1 fu2 hF8 Hfr HOz Hvw Hcz;generalize X8.setCell ⟨w.heap.size+1,2,none⟩ (.slice va (t.revs.length+1) vc)=Y at*;go_wp2;go_roundw
              case rel=>
               refine⟨⟨a,b-1,m11,_,_,_,rfl,rfl,rfl,HF.out.up (by have:=HA0.out;omega),?_,?_⟩⟩
               ·show t.homes.length+a≤200;rw[←Ho2.out,List.length_map];omega
               ·show(t.revs++ [m11]).length+(b-1)≤100;rw[List.length_append,List.length_singleton,←Hrn.out];omega
              case measure=>simp[intOf];omega
end Go.Proofs.YtacjklochmelfaaGreatDoor
