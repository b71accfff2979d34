import Derived.Test.YtacjklochmelfaaGreatDoorTxnBase
import Derived.Test.YtacjklochmelfaaGreatDoorJReadC
import Derived.Test.YtacjklochmelfaaGreatDoorTagOwn
import Derived.Test.YtacjklochmelfaaGreatDoorPutByt
import Derived.Test.YtacjklochmelfaaGreatDoorHeld
import Derived.Test.YtacjklochmelfaaGreatDoorHead
import Derived.Deep.RegionWith
import Derived.Deep.DeepCutAuto
namespace Go.Proofs.YtacjklochmelfaaGreatDoor
open Go.RowKit
set_option maxRecDepth 100000
set_option maxHeartbeats 16000000
theorem KW (w:World)(q:Int)(ts:List (Int×Bool))(b off cap:Nat)(hq0:1≤q)(hq1:q≤4294967295)(hl0:1≤ts.length)(hl:ts.length≤17)(hR:zK (ts.map (·.1)) ts.length)
  (h1: ∀i,i<ts.length→w.cell? ⟨b,off+i*2,none⟩=some (za (ts.getD i (0,false)).1)∧w.cell? ⟨b,off+i*2+1,none⟩=some (.bool (ts.getD i (0,false)).2)):
  Calls Tryz.prog 86 #[.agg #[za q,.slice (some ⟨b,off,none⟩) ts.length cap]] w fun e w'=> ∃v,e= .returned v∧zi w' w.heap.size 5 v (qc (zm 2 ts.length q++zE ts))∧Chg 0 0 w w':=by
 have C0:Chg 0 0 w (w.alloc (.cells #[za q,.slice (some ⟨b,off,none⟩) ts.length cap] 171)):=Chg.alloc (Chg.refl 0 0 w) _;have B0:=zh w (.cells #[za q,.slice (some ⟨b,off,none⟩) ts.length cap] 171);have hc2:=pn2 (v:=(ts.length:Int)) (by omega) (by omega);have hq4:=pn4 (v:=q) (by omega) hq1;have HY:Hid ((zm 2 (ts.length:Int) q).length=12):=Qp hc2 hq4;have hsq:=fun w=>jp w q;rw[show qf q=true from by unfold qf;rw[←Bool.decide_and];exact decide_eq_true ⟨hq0,hq1⟩] at hsq
 have hhd:=fun w=>ZN w 2 (ts.length:Int) q (by omega) (by omega) (by omega) hc2 hq4;have HR:Hid (zK (ts.map (·.1)) ts.length):=hR;have H1:Hid (∀i,i<ts.length→w.cell? ⟨b,off+i*2,none⟩=some (za (ts.getD i (0,false)).1)∧w.cell? ⟨b,off+i*2+1,none⟩=some (.bool (ts.getD i (0,false)).2)):=h1;have s0:(w.alloc (.cells #[za q,.slice (some ⟨b,off,none⟩) ts.length cap] 171)).heap.size=w.heap.size+1:=by simp
 obtain⟨n,hn⟩: ∃n,n=ts.length:=⟨_,rfl⟩;have Hn:Hid (n=ts.length):=hn;rw[←hn] at hl0 hl hhd HY B0 C0 s0⊢;clear hR h1 hc2 hq4 hn;obtain⟨k0,k1,_,_⟩:=zn B0;go_enter Tryz.func86,Tryz.ntmps86;go_wp2_with fail;generalize w.alloc (.cells #[za q,.slice (some ⟨b,off,none⟩) n cap] 171)=w0 at*;refine(hsq _).mono ?_;rintro e w1 ⟨rfl,rfl⟩;have hn1: ¬((n:Int)<1):=by omega
 have hn2: ¬((17:Int)<(n:Int)):=by omega
 clear hsq;go_wp2_with fail;clear hn1 hn2;refine(hhd _).mono ?_;rintro e w2 ⟨v2,rfl,o2,h2⟩;have HB2:Hid (w2.heap[w.heap.size]?=some (.cells #[za q,.slice (some ⟨b,off,none⟩) n cap] 171 (0,0))):=(h2.block _ (by omega) (by omega)).trans B0;obtain⟨g2,gc2,rfl⟩:=o2.some_of (by rw[HY.out];omega);rw[HY.out] at o2⊢;have HO2:Hid (zi w2 (w.heap.size+1) 5 (.slice (some (zd g2)) 12 gc2) (zm 2 (n:Int) q)):=o2.base (fun g hg=>by have:=(o2.lt g hg).1;omega)
 have HC2:Hid (Chg 0 0 w w2):=C0.trans h2;clear hhd o2 h2 B0 C0 k0 k1;go_wp2;go_loopw [5,6] (fun o x wr=> ∃k:Nat,k≤n∧x=za k∧(∃g cp,o= .slice (some (zd g)) (12+3*k) cp)∧zi wr (w.heap.size+1) 5 o (zm 2 (n:Int) q++zE (ts.take k))∧wr.heap[w.heap.size]?=some (.cells #[za q,.slice (some ⟨b,off,none⟩) n cap] 171 (0,0))∧Chg 0 0 w wr) (fun _ x _=>n-(intOf x).toNat)
 case atStart=>exact⟨0,Nat.zero_le _,rfl,⟨_,_,rfl⟩,by rw[List.take_zero];show zi _ _ _ _ (_++ []);rw[List.append_nil];exact HO2.out,HB2.out,HC2.out⟩
 case round=>
  clear HO2 HB2 HC2;obtain⟨k,hk,rfl,⟨g,cp,rfl⟩,ho,hb,hc⟩:=hrel;have HBx:=Xx (HR.out.bound (by rw[List.length_map];exact Nat.le_refl _));have hyl:(zm 2 (n:Int) q++zE (ts.take k)).length=12+3*k:=by rw[List.length_append,HY.out,Qs (fun x hx=>HBx x (List.mem_of_mem_take hx)),List.length_take];have:=Hn.out;omega
  by_cases hlt:k<n
  ·have hltx:k<ts.length:=by have:=Hn.out;omega
   obtain⟨r1,r2⟩:=H1.out k hltx;have c1:=hc.cell r1 (by omega);have cb:=hc.cell r2 (by omega);clear r1 r2;have hi:(k:Int)<(n:Int):=by omega
   have hx:ts.getD k (0,false)=ts[k]:=by simp[List.getD_eq_getElem?_getD,hltx]
   obtain⟨g0,g1⟩:=HBx _ (List.getElem_mem hltx);rw[←hx] at g0 g1;obtain⟨k0,k1,_,_⟩:=zn hb;have HC:Hid (Chg 0 0 w wr):=hc;have HO:Hid (zi wr (w.heap.size+1) 5 (.slice (some (zd g)) (12+3*k) cp) (zm 2 (n:Int) q++zE (ts.take k))):=ho;have HB:Hid (wr.heap[w.heap.size]?=some (.cells #[za q,.slice (some ⟨b,off,none⟩) n cap] 171 (0,0))):=hb;have HT:Hid (zm 2 (n:Int) q++zE (ts.take (k+1))=zm 2 (n:Int) q++zE (ts.take k)++zk (ts.getD k (0,false)).1 2++ [if(ts.getD k (0,false)).2 then 1 else 0]):=by show _=_;rw[J6 hltx];unfold Xw;rw[←List.append_assoc,←List.append_assoc]
   have H2:Hid ((zk (ts.getD k (0,false)).1 2).length=2):=jP ⟨g0,g1⟩;have HYl:Hid ((zm 2 (n:Int) q++zE (ts.take k)).length=12+3*k):=hyl;have hN:=qB wr (ts.getD k (0,false)).1;rw[show(decide (0≤(ts.getD k (0,false)).1)&&decide ((ts.getD k (0,false)).1<2048))=true from by rw[decide_eq_true g0,decide_eq_true g1];rfl] at hN;have HF:Hid (∀w2:World,qC wr w2→Hid (zi w2 (w.heap.size+1) 5 (.slice (some (zd g)) (12+3*k) cp) (zm 2 (n:Int) q++zE (ts.take k))∧w2.heap[w.heap.size]?=some (.cells #[za q,.slice (some ⟨b,off,none⟩) n cap] 171 (0,0))∧Chg 0 0 w w2∧w2.cell? ⟨b,off+k*2+1,none⟩=some (.bool (ts.getD k (0,false)).2))):=fun w2 h=>⟨HO.out.chg (h.chg 0 0) (by intro g _;omega),by rw[h.heap];exact HB.out,HC.out.trans (h.chg 0 0),(h.cell _).trans cb⟩
   have HXk:Hid (∀j,k=j+1→wr.cell? ⟨b,off+j*2,none⟩=some (za (ts.getD j (0,false)).1)∧(ts.getD j (0,false)).1<(ts.getD k (0,false)).1):=fun j e=>⟨hc.cell (H1.out j (by omega)).1 (by omega),by rw[e,←Ue,←Ue];exact HR.out.ahead (by omega)⟩;have hbl:b<wr.heap.size:=zF cb;have hbw:b<w.heap.size:=zF (H1.out k hltx).1;generalize (ts.getD k (0,false)).1=y at*;generalize (ts.getD k (0,false)).2=ee at*;generalize zm 2 (n:Int) q++zE (ts.take k)=L at*
   clear ho hc hx hb HBx hyl HB HC HO cb;go_wp2_with fail;refine hN.mono ?_;rintro e w2 ⟨rfl,rfl⟩;clear hN;by_cases hk0:k=0
   ·subst hk0;simp only[Nat.zero_mul,Nat.add_zero] at c1;clear HXk;go_wp2;go_quiet (fail);go_wp2_with fail;have hf:=HF.out _ ((qC.refl w2).drewN nq);generalize w2.drewN nq=w3 at*;have HO3:Hid (zi w3 (w.heap.size+1) 5 (.slice (some (zd g)) (12+3*0) cp) L):=hf.out.1;have HB3:Hid (w3.heap[w.heap.size]?=some (.cells #[za q,.slice (some ⟨b,off,none⟩) n cap] 171 (0,0))):=hf.out.2.1;have HC3:Hid (Chg 0 0 w w3):=hf.out.2.2.1
    have HE3:Hid (w3.cell? ⟨b,off+0*2+1,none⟩=some (.bool ee)):=hf.out.2.2.2;clear hf HF;have hN:=zI w3 y 2 (by omega);refine hN.mono ?_;rintro e w4 ⟨r,rfl,or',h4⟩;have s3:=(gLt HB3.out);have s4:=h4.size;have HO4:Hid (zi w4 (w.heap.size+1) 5 (.slice (some (zd g)) (12+3*0) cp) L):=HO3.out.chg h4 (by intro g _;omega);have HV4:Hid (zr w4 w3.heap.size w4.heap.size .u8 r (zk y 2)):=or'.view (by rw[H2.out];omega) (fun g hg=>(or'.lt g hg).2)
    have HC4:Hid _:=HC3.out.trans h4;have HB4:Hid _:=(h4.block _ (gLt HB3.out) (by omega)).trans HB3.out;have HE4:Hid _:=h4.cell HE3.out (by omega);obtain⟨r0,r1,r2,rfl⟩:=zx or';clear hN or' h4 HO3 HB3 HC3 HE3;go_wp2_with (at_builtin;refine zV rfl (.tmp 64) (.tmp 71) rfl (w.heap.size+1) _ L rfl HO4.out (by omega) _ _ _ (zk y 2) rfl HV4.out (by rw[H2.out];omega) (by rw[H2.out,HYl.out];omega) ?_);intro v' w5 ho5 hc5
    have HO5:Hid (zi w5 (w.heap.size+1) 5 v' (L++zk y 2)):=ho5;have HC5:Hid _:=HC4.out.step hc5 (by omega);have hlt5:=(gLt HB4.out);have HB5:Hid _:=(hc5.block _ hlt5 (by omega)).trans HB4.out;have ce:=hc5.cell HE4.out (by omega);have hlt6:=(gLt HB5.out);obtain⟨kk0,kk1,_,_⟩:=zn HB5.out;obtain⟨vg,vc,rfl⟩:=ho5.some_of (by rw[List.length_append,H2.out];omega);have HLl:Hid ((L++zk y 2).length=12+3*0+2):=by show _=_;rw[List.length_append,H2.out,HYl.out]
    rw[HLl.out] at HO5⊢;clear ho5 hc5 HV4 HO4 HB4 HC4 HE4;simp only[Nat.zero_mul,Nat.add_zero] at ce
    cases ee with
    |true=>
     have HTx:Hid (zm 2 (n:Int) q++zE (ts.take (0+1))=L++(zk y 2++ [1])):=by show _=_;rw[HT.out];simp
     have e6:Chg 0 0 w5 (w5.alloc (.cells #[zb 1] 5)):=Chg.alloc (Chg.refl 0 0 w5) _;have HO6:Hid (zi (w5.alloc (.cells #[zb 1] 5)) (w.heap.size+1) 5 (.slice (some (zd vg)) (12+3*0+2) vc) (L++zk y 2)):=HO5.out.chg e6 (by intro g _;omega);have HV6:Hid (zr (w5.alloc (.cells #[zb 1] 5)) w5.heap.size (w5.heap.size+1) .u8 (.slice (some (zd w5.heap.size)) 1 1) [1]):=by
      refine⟨_,1,rfl,by simp,⟨by simp,by simp⟩,Or.inr ⟨_,0,rfl,Nat.le_refl _,Nat.lt_succ_self _,fun i hi=>?_⟩⟩;have hi2:i<1:=by simpa using hi
      have hnw:=zh w5 (.cells #[zb 1] 5);simp only[World.cell?,hnw];rcases i with _|i
      all_goals first|rfl|omega
     have HC6:Hid _:=HC5.out.trans e6;have HB6:Hid _:=(e6.block _ hlt6 (by omega)).trans HB5.out;have b6:Hid (w.heap.size+1≤(w5.alloc (.cells #[zb 1] 5)).heap.size):=by show _≤_;have:=e6.size;omega
     clear e6 HO5 HC5 HB5;go_wp2_with (at_builtin;refine zV rfl (.tmp 79) (.tmp 80) rfl (w.heap.size+1) _ (L++zk y 2) rfl HO6.out b6.out _ _ _ [1] rfl HV6.out (by simp) (by rw[HLl.out];show _+1≤_;omega) ?_);intro v7 w7 ho7 hc7;have HO7:Hid (zi w7 (w.heap.size+1) 5 v7 (zm 2 (n:Int) q++zE (ts.take (0+1)))):=by show zi _ _ _ _ _;rw[HTx.out];exact ho7
     have HC7:Hid _:=HC6.out.step hc7 (by omega);have HB7:Hid _:=(hc7.block _ (gLt HB6.out) (by omega)).trans HB6.out;have HV7:Hid (∃g cp,v7= .slice (some (zd g)) (12+3*(0+1)) cp):=by
      have hl5:(zm 2 (n:Int) q++zE (ts.take (0+1))).length=12+3*(0+1):=by
       rw[HTx.out,List.length_append,List.length_append,H2.out,HYl.out];show _+(2+1)=_;omega
      obtain⟨g',c',e'⟩:=HO7.out.some_of (by rw[hl5];omega);exact⟨g',c',by rw[e',hl5]⟩
     clear ho7 hc7 HV6 HO6;go_wp2;go_roundw
     case rel=>exact⟨0+1,by omega,by go_num,HV7.out,HO7.out,HB7.out,HC7.out⟩
     case measure=>simp[intOf];omega
    |false=>
     have HTx:Hid (zm 2 (n:Int) q++zE (ts.take (0+1))=L++(zk y 2++ [0])):=by show _=_;rw[HT.out];simp
     have e6:Chg 0 0 w5 (w5.alloc (.cells #[zb 0] 5)):=Chg.alloc (Chg.refl 0 0 w5) _;have HO6:Hid (zi (w5.alloc (.cells #[zb 0] 5)) (w.heap.size+1) 5 (.slice (some (zd vg)) (12+3*0+2) vc) (L++zk y 2)):=HO5.out.chg e6 (by intro g _;omega);have HV6:Hid (zr (w5.alloc (.cells #[zb 0] 5)) w5.heap.size (w5.heap.size+1) .u8 (.slice (some (zd w5.heap.size)) 1 1) [0]):=by
      refine⟨_,1,rfl,by simp,⟨by simp,by simp⟩,Or.inr ⟨_,0,rfl,Nat.le_refl _,Nat.lt_succ_self _,fun i hi=>?_⟩⟩;have hi2:i<1:=by simpa using hi
      have hnw:=zh w5 (.cells #[zb 0] 5);simp only[World.cell?,hnw];rcases i with _|i
      all_goals first|rfl|omega
     have HC6:Hid _:=HC5.out.trans e6;have HB6:Hid _:=(e6.block _ hlt6 (by omega)).trans HB5.out;have b6:Hid (w.heap.size+1≤(w5.alloc (.cells #[zb 0] 5)).heap.size):=by show _≤_;have:=e6.size;omega
     clear e6 HO5 HC5 HB5;go_wp2_with (at_builtin;refine zV rfl (.tmp 82) (.tmp 83) rfl (w.heap.size+1) _ (L++zk y 2) rfl HO6.out b6.out _ _ _ [0] rfl HV6.out (by simp) (by rw[HLl.out];show _+1≤_;omega) ?_);intro v7 w7 ho7 hc7;have HO7:Hid (zi w7 (w.heap.size+1) 5 v7 (zm 2 (n:Int) q++zE (ts.take (0+1)))):=by show zi _ _ _ _ _;rw[HTx.out];exact ho7
     have HC7:Hid _:=HC6.out.step hc7 (by omega);have HB7:Hid _:=(hc7.block _ (gLt HB6.out) (by omega)).trans HB6.out;have HV7:Hid (∃g cp,v7= .slice (some (zd g)) (12+3*(0+1)) cp):=by
      have hl5:(zm 2 (n:Int) q++zE (ts.take (0+1))).length=12+3*(0+1):=by
       rw[HTx.out,List.length_append,List.length_append,H2.out,HYl.out];show _+(2+1)=_;omega
      obtain⟨g',c',e'⟩:=HO7.out.some_of (by rw[hl5];omega);exact⟨g',c',by rw[e',hl5]⟩
     clear ho7 hc7 HV6 HO6;go_wp2;go_roundw
     case rel=>exact⟨0+1,by omega,by go_num,HV7.out,HO7.out,HB7.out,HC7.out⟩
     case measure=>simp[intOf];omega
   ·obtain⟨j,rfl⟩: ∃j,k=j+1:=⟨k-1,by omega⟩;obtain⟨c0,hjy⟩:=HXk.out j rfl;have hj1:(0:Int)<(j:Int)+1:=by omega
    have hj2:(j:Int)<(n:Int):=by omega
    generalize (ts.getD j (0,false)).1=z at*;have hzy: ¬y≤z:=by omega
    clear HXk;go_wp2;go_quiet (fail);go_wp2_with fail;have hf:=HF.out _ ((qC.refl w2).drewN nq);generalize w2.drewN nq=w3 at*;have HO3:Hid (zi w3 (w.heap.size+1) 5 (.slice (some (zd g)) (12+3*(j+1)) cp) L):=hf.out.1;have HB3:Hid _:=hf.out.2.1;have HC3:Hid _:=hf.out.2.2.1;have HE3:Hid _:=hf.out.2.2.2;clear hf HF;have hN:=zI w3 y 2 (by omega);refine hN.mono ?_;rintro e w4 ⟨r,rfl,or',h4⟩;have s3:=(gLt HB3.out)
    have s4:=h4.size;have HO4:Hid (zi w4 (w.heap.size+1) 5 (.slice (some (zd g)) (12+3*(j+1)) cp) L):=HO3.out.chg h4 (by intro g _;omega);have HV4:Hid (zr w4 w3.heap.size w4.heap.size .u8 r (zk y 2)):=or'.view (by rw[H2.out];omega) (fun g hg=>(or'.lt g hg).2);have HC4:Hid _:=HC3.out.trans h4;have HB4:Hid _:=(h4.block _ (gLt HB3.out) (by omega)).trans HB3.out;have HE4:Hid _:=h4.cell HE3.out (by omega)
    obtain⟨r0,r1,r2,rfl⟩:=zx or';clear hN or' h4 HO3 HB3 HC3 HE3;go_wp2_with (at_builtin;refine zV rfl (.tmp 64) (.tmp 71) rfl (w.heap.size+1) _ L rfl HO4.out (by omega) _ _ _ (zk y 2) rfl HV4.out (by rw[H2.out];omega) (by rw[H2.out,HYl.out];omega) ?_);intro v' w5 ho5 hc5;have HO5:Hid (zi w5 (w.heap.size+1) 5 v' (L++zk y 2)):=ho5;have HC5:Hid _:=HC4.out.step hc5 (by omega);have hlt5:=(gLt HB4.out)
    have HB5:Hid _:=(hc5.block _ hlt5 (by omega)).trans HB4.out;have ce:=hc5.cell HE4.out (by omega);have hlt6:=(gLt HB5.out);obtain⟨kk0,kk1,_,_⟩:=zn HB5.out;obtain⟨vg,vc,rfl⟩:=ho5.some_of (by rw[List.length_append,H2.out];omega);have HLl:Hid ((L++zk y 2).length=12+3*(j+1)+2):=by show _=_;rw[List.length_append,H2.out,HYl.out]
    rw[HLl.out] at HO5⊢;clear ho5 hc5 HV4 HO4 HB4 HC4 HE4
    cases ee with
    |true=>
     have HTx:Hid (zm 2 (n:Int) q++zE (ts.take ((j+1)+1))=L++(zk y 2++ [1])):=by show _=_;rw[HT.out];simp
     have e6:Chg 0 0 w5 (w5.alloc (.cells #[zb 1] 5)):=Chg.alloc (Chg.refl 0 0 w5) _;have HO6:Hid (zi (w5.alloc (.cells #[zb 1] 5)) (w.heap.size+1) 5 (.slice (some (zd vg)) (12+3*(j+1)+2) vc) (L++zk y 2)):=HO5.out.chg e6 (by intro g _;omega);have HV6:Hid (zr (w5.alloc (.cells #[zb 1] 5)) w5.heap.size (w5.heap.size+1) .u8 (.slice (some (zd w5.heap.size)) 1 1) [1]):=by
      refine⟨_,1,rfl,by simp,⟨by simp,by simp⟩,Or.inr ⟨_,0,rfl,Nat.le_refl _,Nat.lt_succ_self _,fun i hi=>?_⟩⟩;have hi2:i<1:=by simpa using hi
      have hnw:=zh w5 (.cells #[zb 1] 5);simp only[World.cell?,hnw];rcases i with _|i
      all_goals first|rfl|omega
     have HC6:Hid _:=HC5.out.trans e6;have HB6:Hid _:=(e6.block _ hlt6 (by omega)).trans HB5.out;have b6:Hid (w.heap.size+1≤(w5.alloc (.cells #[zb 1] 5)).heap.size):=by show _≤_;have:=e6.size;omega
     clear e6 HO5 HC5 HB5;go_wp2_with (at_builtin;refine zV rfl (.tmp 79) (.tmp 80) rfl (w.heap.size+1) _ (L++zk y 2) rfl HO6.out b6.out _ _ _ [1] rfl HV6.out (by simp) (by rw[HLl.out];show _+1≤_;omega) ?_);intro v7 w7 ho7 hc7;have HO7:Hid (zi w7 (w.heap.size+1) 5 v7 (zm 2 (n:Int) q++zE (ts.take ((j+1)+1)))):=by show zi _ _ _ _ _;rw[HTx.out];exact ho7
     have HC7:Hid _:=HC6.out.step hc7 (by omega);have HB7:Hid _:=(hc7.block _ (gLt HB6.out) (by omega)).trans HB6.out;have HV7:Hid (∃g cp,v7= .slice (some (zd g)) (12+3*((j+1)+1)) cp):=by
      have hl5:(zm 2 (n:Int) q++zE (ts.take ((j+1)+1))).length=12+3*((j+1)+1):=by
       rw[HTx.out,List.length_append,List.length_append,H2.out,HYl.out];show _+(2+1)=_;omega
      obtain⟨g',c',e'⟩:=HO7.out.some_of (by rw[hl5];omega);exact⟨g',c',by rw[e',hl5]⟩
     clear ho7 hc7 HV6 HO6;go_wp2;go_roundw
     case rel=>exact⟨(j+1)+1,by omega,by go_num,HV7.out,HO7.out,HB7.out,HC7.out⟩
     case measure=>simp[intOf];omega
    |false=>
     have HTx:Hid (zm 2 (n:Int) q++zE (ts.take ((j+1)+1))=L++(zk y 2++ [0])):=by show _=_;rw[HT.out];simp
     have e6:Chg 0 0 w5 (w5.alloc (.cells #[zb 0] 5)):=Chg.alloc (Chg.refl 0 0 w5) _;have HO6:Hid (zi (w5.alloc (.cells #[zb 0] 5)) (w.heap.size+1) 5 (.slice (some (zd vg)) (12+3*(j+1)+2) vc) (L++zk y 2)):=HO5.out.chg e6 (by intro g _;omega);have HV6:Hid (zr (w5.alloc (.cells #[zb 0] 5)) w5.heap.size (w5.heap.size+1) .u8 (.slice (some (zd w5.heap.size)) 1 1) [0]):=by
      refine⟨_,1,rfl,by simp,⟨by simp,by simp⟩,Or.inr ⟨_,0,rfl,Nat.le_refl _,Nat.lt_succ_self _,fun i hi=>?_⟩⟩;have hi2:i<1:=by simpa using hi
      have hnw:=zh w5 (.cells #[zb 0] 5);simp only[World.cell?,hnw];rcases i with _|i
      all_goals first|rfl|omega
     have HC6:Hid _:=HC5.out.trans e6;have HB6:Hid _:=(e6.block _ hlt6 (by omega)).trans HB5.out;have b6:Hid (w.heap.size+1≤(w5.alloc (.cells #[zb 0] 5)).heap.size):=by show _≤_;have:=e6.size;omega
     clear e6 HO5 HC5 HB5;go_wp2_with (at_builtin;refine zV rfl (.tmp 82) (.tmp 83) rfl (w.heap.size+1) _ (L++zk y 2) rfl HO6.out b6.out _ _ _ [0] rfl HV6.out (by simp) (by rw[HLl.out];show _+1≤_;omega) ?_);intro v7 w7 ho7 hc7;have HO7:Hid (zi w7 (w.heap.size+1) 5 v7 (zm 2 (n:Int) q++zE (ts.take ((j+1)+1)))):=by show zi _ _ _ _ _;rw[HTx.out];exact ho7
     have HC7:Hid _:=HC6.out.step hc7 (by omega);have HB7:Hid _:=(hc7.block _ (gLt HB6.out) (by omega)).trans HB6.out;have HV7:Hid (∃g cp,v7= .slice (some (zd g)) (12+3*((j+1)+1)) cp):=by
      have hl5:(zm 2 (n:Int) q++zE (ts.take ((j+1)+1))).length=12+3*((j+1)+1):=by
       rw[HTx.out,List.length_append,List.length_append,H2.out,HYl.out];show _+(2+1)=_;omega
      obtain⟨g',c',e'⟩:=HO7.out.some_of (by rw[hl5];omega);exact⟨g',c',by rw[e',hl5]⟩
     clear ho7 hc7 HV6 HO6;go_wp2;go_roundw
     case rel=>exact⟨(j+1)+1,by omega,by go_num,HV7.out,HO7.out,HB7.out,HC7.out⟩
     case measure=>simp[intOf];omega
  ·obtain rfl:k=n:=by omega
   have ht:ts.take k=ts:=List.take_of_length_le (by have:=Hn.out;omega);rw[ht] at ho hyl;have sz:=hc.size;have hN:=Xk wr (by rw[hyl];omega) (ho.view (hi:=wr.heap.size) (by rw[hyl];omega) (fun g hg=>(ho.lt g hg).2));have HC:Hid _:=hc;have hge: ¬((k:Int)<(k:Int)):=by omega
   clear ho hb hc HBx;go_wp2_with fail;refine hN.mono ?_;rintro e w2 ⟨v,rfl,o2,h2⟩;have HO2:Hid (zi w2 w.heap.size 5 v (qc (zm 2 (k:Int) q++zE ts))):=o2.base (fun g hg=>by have:=(o2.lt g hg).1;omega);have HC2:Hid _:=HC.out.trans h2;clear hN o2 h2;go_wp2;go_ret;exact⟨_,rfl,HO2.out,HC2.out⟩
def Told (w w':World) (e:Ending) (bs:List (List Int)):Prop:= ∃g c,e= .returned (.slice (some (zd g)) (64*bs.length) c)∧zi w' w.heap.size 5 (.slice (some (zd g)) (64*bs.length) c) bs.flatten∧Chg 0 0 w w'
theorem UX (w:World)(q:Int)(po ao:Option Addr)(pc ac:Nat):
  Calls Tryz.prog 52 #[.agg #[za q,.slice po 0 pc,.slice ao 0 ac]] w fun e w'=>Told w w' e (BL q [] []):=by
 rw[ET];have C0:Chg 0 0 w (w.alloc (.cells #[za q,.slice po 0 pc,.slice ao 0 ac] 35)):=Chg.alloc (Chg.refl 0 0 w) _;obtain⟨⟨k0,k1,k2⟩,_⟩:=tri (zh w (.cells #[za q,.slice po 0 pc,.slice ao 0 ac] 35));go_enter Tryz.func52,Tryz.ntmps52;go_upto_region 7 with fail;generalize w.alloc (.cells #[za q,.slice po 0 pc,.slice ao 0 ac] 35)=w1 at*;have HC:Hid (Chg 0 0 w (w1.alloc (.cells #[] 5))):=C0.alloc _;have HO:Hid _:=zi.bnil w1 w.heap.size C0.size
 clear C0 k0 k1 k2;go_wp2;go_ret;exact⟨_,_,rfl,HO.out,HC.out⟩
theorem abJ (w:World){lo hi:Nat}{hv:Value}{q:Int}{hs:List Wr}{rs:List Int}(b off cap:Nat)(hok:OkT q hs rs)(h0:0<rs.length)(hn:hs.length+rs.length≤128)(hb:b<w.heap.size)(hcap:rs.length≤cap)
  (h1:qF w lo hi hv hs) (h2: ∀i,i<rs.length→w.cell? ⟨b,off+i,none⟩=some (za (rs.getD i 0)))
  (rec: ∀w' rv,Chg 0 0 w w'→zr w' 0 w.heap.size .i64 rv (rs.drop 26)→Calls Tryz.prog 52 #[.agg #[za q,hv,rv]] w' fun e w''=>Told w' w'' e (BL q hs (rs.drop 26))):
  Calls Tryz.prog 52 #[.agg #[za q,hv,.slice (some ⟨b,off,none⟩) rs.length cap]] w fun e w'=>Told w w' e (BL q hs rs):=by
 obtain⟨po,pcap,rfl⟩:=h1.slice;have C0:Chg 0 0 w (w.alloc (.cells #[za q,.slice po hs.length pcap,.slice (some ⟨b,off,none⟩) rs.length cap] 35)):=Chg.alloc (Chg.refl 0 0 w) _;have B0:=zh w (.cells #[za q,.slice po hs.length pcap,.slice (some ⟨b,off,none⟩) rs.length cap] 35);obtain⟨⟨k0,k1,k2⟩,_⟩:=tri B0;have hr0:(0:Int)<(rs.length:Int):=by omega
 obtain⟨k,hk⟩: ∃k,k=min rs.length 26:=⟨_,rfl⟩;have e26:(if(26:Int)<(rs.length:Int) then(26:Int) else(rs.length:Int))=(k:Int):=by rw[hk];split<;>omega
 have HTk:Hid (rs.take 26=rs.take k∧rs.drop 26=rs.drop k∧(rs.take k).length=k):=by
  rcases Nat.le_total rs.length 26 with h|h
  ·have:k=rs.length:=by omega
   refine⟨?_,?_,?_⟩
   ·rw[this,List.take_of_length_le h,List.take_length]
   ·rw[this,List.drop_eq_nil_of_le h,List.drop_length]
   ·rw[List.length_take];omega
  ·have:k=26:=by omega
   rw[this];exact⟨rfl,rfl,by rw[List.length_take];omega⟩
 have hk26:k≤26:=by omega
 have hk0:1≤k:=by omega
 have hkc:k≤rs.length:=by omega
 have HBL:Hid (BL q hs rs=Qh q (rs.take k)::BL q hs (rs.drop k)):=by have:=EU q hs h0;rw[HTk.out.1,HTk.out.2.1] at this;exact this
 have HREV:Hid (∀W,Chg 0 0 w W→Calls Tryz.prog 84 #[.agg #[za q,.slice (some ⟨b,off,none⟩) k cap]] W fun e w'=> ∃v,e= .returned v∧zi w' W.heap.size 5 v (Qh q (rs.take k))∧Chg 0 0 W w'):=fun W hW=>by
  have:=XW W q (rs.take k) b off cap hok.q0 hok.q1 (by rw[HTk.out.2.2];omega) (by rw[HTk.out.2.2];omega) (hok.rev.take k) (fun i hi=>by
   rw[HTk.out.2.2] at hi;have e:(rs.take k).getD i 0=rs.getD i 0:=by simp[List.getD_eq_getElem?_getD,hi]
   rw[e];exact hW.cell (h2 i (by omega)) (by omega))
  rw[HTk.out.2.2] at this;unfold Qh;rw[HTk.out.2.2];exact this
 have HRl:Hid ((Qh q (rs.take k)).length=64):=acr hok.q0 hok.q1 (by rw[HTk.out.2.2];omega) (fun x hx=>hok.rev.bound (Nat.le_refl _) x (List.mem_of_mem_take hx));obtain⟨ad,had⟩: ∃ad:Option Addr,(if cap=k then some (⟨b,off,none⟩:Addr) else some ⟨b,off+k,none⟩)=ad:=⟨_,rfl⟩;have HVd:Hid (∀W,Chg 0 0 w W→zr W 0 w.heap.size .i64 (.slice ad (rs.length-k) (cap-k)) (rs.drop k)):=fun W hW=>by
  rw[←had];split
  ·have e:rs.drop k= []:=List.drop_eq_nil_of_le (by omega);rw[e];exact⟨_,cap-k,by rw[show rs.length-k=0 by omega];rfl,by simp,⟨by simp,fun h=>by cases h⟩,Or.inl rfl⟩
  ·refine⟨_,cap-k,by rw[List.length_drop],by rw[List.length_drop];omega,⟨by rw[List.length_drop];omega,fun h=>by cases h⟩,Or.inr ⟨b,off+k,rfl,Nat.zero_le _,hb,fun i hi=>?_⟩⟩;rw[List.length_drop] at hi;rw[Nat.add_assoc,hW.cell (h2 (k+i) (by omega)) (by omega)];simp[List.getD_eq_getElem?_getD,List.getElem?_drop]
 have n1: ¬cap<k:=by omega
 have n2: ¬rs.length<k:=by omega
 obtain⟨i1,i2⟩:=VG 128 (q:=q) (hs:=hs) (rs:=rs.drop k) (by rw[List.length_drop];omega) (hok.dropR k);have HFl:Hid _:=Q2 i1;have hlen:(BL q hs (rs.drop k)).length≤256:=by rw[List.length_drop] at i2;omega
 have HREC:Hid (∀w' rv,Chg 0 0 w w'→zr w' 0 w.heap.size .i64 rv (rs.drop k)→Calls Tryz.prog 52 #[.agg #[za q,.slice po hs.length pcap,rv]] w' fun e w''=>Told w' w'' e (BL q hs (rs.drop k))):=by rw[←HTk.out.2.1];exact rec
 have HB0:Hid _:=B0;have HC0:Hid _:=C0;have s0:(w.alloc (.cells #[za q,.slice po hs.length pcap,.slice (some ⟨b,off,none⟩) rs.length cap] 35)).heap.size=w.heap.size+1:=by simp
 clear rec h1 h2 i1 i2 B0 C0 hok hk;go_enter Tryz.func52,Tryz.ntmps52;go_upto_region 4 with fail
 try simp only[e26]
 generalize w.alloc (.cells #[za q,.slice po hs.length pcap,.slice (some ⟨b,off,none⟩) rs.length cap] 35)=w1 at*;clear k0 k1 k2 e26;go_cut [5] (fun s wx=> ∃g c,s= .slice (some (zd g)) 64 c∧zi wx w.heap.size 5 s (Qh q (rs.take k))∧Chg 0 0 w1 wx)
 case first=>
  have HS:Hid ((fun w':World=>w'.heap[w.heap.size]?=some (.cells #[za q,.slice po hs.length pcap,.slice (some ⟨b,off,none⟩) rs.length cap] 35 (0,0))) w1.drew):=HB0.out;refine zp (fun w':World=>w'.heap[w.heap.size]?=some (.cells #[za q,.slice po hs.length pcap,.slice (some ⟨b,off,none⟩) rs.length cap] 35 (0,0))) (by kernel_rfl) ?_;refine hTk 0 (.pointer (some (zd w.heap.size))) rfl (fun w' hw'=>by go_simp) HS.out ?_
  go_simp;refine hTk 1 (za q) rfl (fun w' hw'=>by obtain⟨⟨q0,q1,q2⟩,_⟩:=tri hw';go_simp) HS.out ?_;go_simp;refine hTk 2 (.pointer (some ⟨w.heap.size,2,none⟩)) rfl (fun w' hw'=>by go_simp) HS.out ?_;go_simp;refine hTk 3 (.slice (some ⟨b,off,none⟩) rs.length cap) rfl (fun w' hw'=>by obtain⟨⟨q0,q1,q2⟩,_⟩:=tri hw';go_simp) HS.out ?_;go_simp;refine hTk 4 (za k) rfl (fun w' hw'=>by go_simp) HS.out ?_;go_simp
  refine hTk 5 (.slice (some ⟨b,off,none⟩) k cap) rfl (fun w' hw'=>by go_simp) HS.out ?_;go_simp;refine hTk 6 (.agg #[za q,.slice (some ⟨b,off,none⟩) k cap]) rfl (fun w' hw'=>by go_simp) HS.out ?_;go_simp;have HC1:Hid _:=HC0.out.drew;have HC11:Hid _:=Chg.drew (Chg.refl 0 0 w1);generalize w1.drew=w2 at*;refine zg 7 rfl rfl (by kernel_rfl) ?_;refine zl 84 #[.agg #[za q,.slice (some ⟨b,off,none⟩) k cap]] (by first|kernel_rfl|go_simp) (HREV.out w2 HC1.out) ?_
  rintro e w3 ⟨v3,rfl,o3,h3⟩;have s2:=HC11.out.size;have HS3:Hid ((fun w':World=>w'.heap[w.heap.size]?=some (.cells #[za q,.slice po hs.length pcap,.slice (some ⟨b,off,none⟩) rs.length cap] 35 (0,0))) w3):=(h3.block _ (by omega) (by omega)).trans HS.out;have HO3:Hid (zi w3 w.heap.size 5 v3 (Qh q (rs.take k))):=o3.base (fun g hg=>by have:=(o3.lt g hg).1;omega);obtain⟨g3,c3,rfl⟩:=o3.some_of (by rw[HRl.out];omega)
  rw[HRl.out] at HO3⊢;have HC3:Hid _:=HC11.out.trans h3;refine⟨_,rfl,HS3.out,?_⟩;clear o3 h3;go_simp;refine zg 8 rfl rfl (by kernel_rfl) ?_;go_simp;refine⟨HS3.out,?_⟩;refine zt (by kernel_rfl) (NoPanic.normal ?_);go_wp2;go_meet;exact⟨_,_,rfl,HO3.out,HC3.out⟩
 case rest=>
  obtain⟨g,gc,rfl,ho,hc⟩:=hcut;generalize wc=w4 at*;have HC4:Hid _:=HC0.out.trans hc;have HB4:Hid _:=(hc.block _ (by omega) (by omega)).trans HB0.out;have HO4:Hid (zi w4 w.heap.size 5 (.slice (some (zd g)) 64 gc) (Qh q (rs.take k))):=ho;have s4:=hc.size;clear ho hc HB0 HC0;go_wp2;have HS:Hid ((fun w':World=>w'.heap[w.heap.size]?=some (.cells #[za q,.slice po hs.length pcap,.slice (some ⟨b,off,none⟩) rs.length cap] 35 (0,0))) w4.drew):=HB4.out
  refine zp (fun w':World=>w'.heap[w.heap.size]?=some (.cells #[za q,.slice po hs.length pcap,.slice (some ⟨b,off,none⟩) rs.length cap] 35 (0,0))) (by kernel_rfl) ?_;refine hTk 0 (.slice (some (zd g)) 64 gc) rfl (fun w' hw'=>by go_simp) HS.out ?_;go_simp;refine hTk 1 (.pointer (some (zd w.heap.size))) rfl (fun w' hw'=>by go_simp) HS.out ?_;go_simp;refine hTk 2 (za q) rfl (fun w' hw'=>by obtain⟨⟨q0,q1,q2⟩,_⟩:=tri hw';go_simp) HS.out ?_
  go_simp;refine hTk 3 (.pointer (some ⟨w.heap.size,1,none⟩)) rfl (fun w' hw'=>by go_simp) HS.out ?_;go_simp;refine hTk 4 (.slice po hs.length pcap) rfl (fun w' hw'=>by obtain⟨⟨q0,q1,q2⟩,_⟩:=tri hw';go_simp) HS.out ?_;go_simp;refine hTk 5 (.pointer (some ⟨w.heap.size,2,none⟩)) rfl (fun w' hw'=>by go_simp) HS.out ?_;go_simp;refine hTk 6 (.slice (some ⟨b,off,none⟩) rs.length cap) rfl (fun w' hw'=>by obtain⟨⟨q0,q1,q2⟩,_⟩:=tri hw';go_simp) HS.out ?_
  go_simp;refine hTk 7 (za k) rfl (fun w' hw'=>by go_simp) HS.out ?_;go_simp;refine hTk 8 (.slice ad (rs.length-k) (cap-k)) rfl (fun w' hw'=>by go_simp) HS.out ?_;go_simp;refine hTk 9 (.agg #[za q,.slice po hs.length pcap,.slice ad (rs.length-k) (cap-k)]) rfl (fun w' hw'=>by go_simp) HS.out ?_;go_simp;have HC5:Hid _:=HC4.out.drew;have HO5:Hid (zi w4.drew w.heap.size 5 (.slice (some (zd g)) 64 gc) (Qh q (rs.take k))):=HO4.out.chg (Chg.drew (Chg.refl 0 0 w4)) (by intro g _;omega)
  have s5:w.heap.size<w4.drew.heap.size:=by show _<w4.heap.size;omega
  generalize w4.drew=w5 at*;clear HC4 HO4 HB4;refine zg 10 rfl rfl (by kernel_rfl) ?_;refine zl 52 #[.agg #[za q,.slice po hs.length pcap,.slice ad (rs.length-k) (cap-k)]] (by first|kernel_rfl|go_simp) (HREC.out w5 _ HC5.out (HVd.out w5 HC5.out)) ?_;rintro e w6 ⟨g6,c6,rfl,o6,h6⟩;have HS6:Hid ((fun w':World=>w'.heap[w.heap.size]?=some (.cells #[za q,.slice po hs.length pcap,.slice (some ⟨b,off,none⟩) rs.length cap] 35 (0,0))) w6):=(h6.block _ (by omega) (by omega)).trans HS.out
  have HC6:Hid _:=HC5.out.trans h6;have s6:=h6.size;have HV6:Hid (zr w6 w5.heap.size w6.heap.size .u8 (.slice (some (zd g6)) (64*(BL q hs (rs.drop k)).length) c6) (BL q hs (rs.drop k)).flatten):=o6.view (by rw[HFl.out];omega) (fun g hg=>(o6.lt g hg).2);have HO6:Hid (zi w6 w.heap.size 5 (.slice (some (zd g)) 64 gc) (Qh q (rs.take k))):=HO5.out.chg h6 (by intro g _;omega);have HVa:Hid (zr w6 w.heap.size w6.heap.size .u8 (.slice (some (zd g)) 64 gc) (Qh q (rs.take k))):=HO6.out.view (by rw[HRl.out];omega) (fun g hg=>(HO6.out.lt g hg).2)
  refine⟨_,rfl,HS6.out,?_⟩;clear o6 h6 HO5 HS HC5;go_simp;have hN:=zX (xs:=Qh q (rs.take k)) (ys:=(BL q hs (rs.drop k)).flatten) w6 (by rw[HRl.out];omega) (by rw[HFl.out];omega) HVa.out HV6.out;refine zg 11 rfl rfl (by kernel_rfl) ?_;refine zl 47 #[.slice (some (zd g)) 64 gc,.slice (some (zd g6)) (64*(BL q hs (rs.drop k)).length) c6] (by first|kernel_rfl|go_simp) hN ?_;rintro e w7 ⟨v7,rfl,o7,h7⟩;have HS7:Hid _:=(h7.block _ (by omega) (by omega)).trans HS6.out
  have HC7:Hid _:=HC6.out.trans h7;have hlen7:(Qh q (rs.take k)++(BL q hs (rs.drop k)).flatten).length=64*(BL q hs rs).length:=by rw[HBL.out,List.length_append,HRl.out,HFl.out,List.length_cons];omega
  obtain⟨g7,c7,rfl⟩:=o7.some_of (by rw[hlen7,HBL.out,List.length_cons];omega);rw[hlen7] at o7⊢;have HO7:Hid (zi w7 w.heap.size 5 (.slice (some (zd g7)) (64*(BL q hs rs).length) c7) (BL q hs rs).flatten):=by
   have e:(BL q hs rs).flatten=Qh q (rs.take k)++(BL q hs (rs.drop k)).flatten:=by rw[HBL.out,List.flatten_cons]
   show zi _ _ _ _ _;rw[e];exact o7.base (fun g hg=>by have:=(o7.lt g hg).1;omega)
  refine⟨_,rfl,HS7.out,?_⟩;clear o7 h7 hN HS6 HC6 hlen7;go_simp;refine zg 12 rfl rfl (by kernel_rfl) ?_;go_simp;refine⟨HS7.out,?_⟩;refine zt (by kernel_rfl) (NoPanic.normal ?_);go_wp2;go_ret;exact⟨_,_,rfl,HO7.out,HC7.out⟩
def UN (xs:List Int) (esc:Bool):List Int:=if xs.length=64∧Zt xs esc=true then jD xs esc else []
theorem JL {xs:List Int}(h:xs.length=64)(esc:Bool):(jD xs esc).length=64:=by
 unfold jD;split
 ·simp[mg,h]
 ·exact h
theorem zr.drop4 {w:World}{lo hi b off cap:Nat}{xs:List Int}(h:zr w lo hi .u8 (.slice (some ⟨b,off,none⟩) 64 cap) xs)(hx:xs.length=64):zr w lo hi .u8 (.slice (some ⟨b,off+4,none⟩) 60 (cap-4)) (xs.drop 4):=by
 obtain⟨_,_,e,_,⟨hc,_⟩,h⟩:=h;rw[hx] at e
 cases e
 have hlen:(xs.drop 4).length=60:=by rw[List.length_drop,hx]
 refine⟨_,_,by rw[hlen],by rw[hlen];omega,⟨by rw[hlen];omega,by simp⟩,?_⟩;rcases h with h|⟨b',off',ha,h1,h2,h3⟩
 ·rw[h] at hx;simp at hx
 ·cases ha
  refine Or.inr ⟨b,off+4,rfl,h1,h2,fun i hi=>?_⟩;rw[hlen] at hi;have:=h3 (4+i) (by omega);rw[Nat.add_assoc,this];simp[List.getD_eq_getElem?_getD,List.getElem?_drop]
def E7 (xs:List Int):List Int:=if xs.length=64 then jy xs else []
def aaE (xs:List Int):Bool:=decide (xs.length=64)
def E8 (xs:List Int):Bool:=decide (xs.length=64)&&decide (xs.take 4=mg)
theorem QJ {w:World}{s:Nat}{a b c:Value}{t:TypeId}(h:w.heap[s]?=some (.cells #[a,b,c] t (0,0))):
  (w.cell? (zd s)=some a∧w.cell? ⟨s,1,none⟩=some b∧w.cell? ⟨s,2,none⟩=some c)∧w.frozen? (zd s)=false∧w.frozen? ⟨s,1,none⟩=false∧w.frozen? ⟨s,2,none⟩=false:=by
 simp[World.cell?,World.frozen?,h]
theorem XV (w:World){lo hi:Nat}{a:Value}{xs:List Int}(hB:Byt xs)(h1:zr w lo hi .u8 a xs)(hhi:hi≤w.heap.size)(hl:xs.length≤1048576):
  Calls Tryz.prog 85 #[a] w fun e w'=> ∃v,e= .returned (.agg #[.bool (aaE xs),v,.bool (E8 xs)])∧zi w' w.heap.size 5 v (E7 xs)∧Chg 0 0 w w':=by
 have C0:Chg 0 0 w (w.alloc (.cells #[.bool false,zc,.bool false] 173)):=Chg.alloc (Chg.refl 0 0 w) _;have HR0:Hid ((w.alloc (.cells #[.bool false,zc,.bool false] 173)).heap[w.heap.size]?=some (.cells #[.bool false,zc,.bool false] 173 (0,0))):=zh _ _;have HC0:Hid (Chg 0 0 w (w.alloc (.cells #[.bool false,zc,.bool false] 173))):=C0;have v0:=h1.chg C0 (by omega);obtain⟨ao,cap,rfl,hl0,_,_⟩:=h1;have fin: ∀(w7:World) (g e:Bool) (dv:Value) (us:List Int),w7.heap[w.heap.size]?=some (.cells #[.bool false,zc,.bool false] 173 (0,0))→Chg 0 0 w w7→zi w7 (w.heap.size+1) 5 dv us→
   Chg 0 0 w (((w7.setCell (zd w.heap.size) (.bool g)).setCell ⟨w.heap.size,1,none⟩ dv).setCell ⟨w.heap.size,2,none⟩ (.bool e))∧zi (((w7.setCell (zd w.heap.size) (.bool g)).setCell ⟨w.heap.size,1,none⟩ dv).setCell ⟨w.heap.size,2,none⟩ (.bool e)) w.heap.size 5 dv us:=by
  intro w7 g e dv us hb hc ho;have hne:dv.ownBlock≠some w.heap.size:=fun h=>by have:=(ho.lt _ h).1;omega
  refine⟨((hc.setCell (p:=(zd w.heap.size)) (Or.inr (Nat.le_refl _)) _).setCell (p:=⟨w.heap.size,1,none⟩) (Or.inr (Nat.le_refl _)) _).setCell (p:=⟨w.heap.size,2,none⟩) (Or.inr (Nat.le_refl _)) _,?_⟩;have h2:=ho.base (base':=w.heap.size) (fun g' hg'=>by have:=(ho.lt g' hg').1;omega);exact((h2.set (p:=(zd w.heap.size)) hne _).set (p:=⟨w.heap.size,1,none⟩) hne _).set (p:=⟨w.heap.size,2,none⟩) hne _
 have Hfin:Hid (∀(w7:World) (g e:Bool) (dv:Value) (us:List Int),w7.heap[w.heap.size]?=some (.cells #[.bool false,zc,.bool false] 173 (0,0))→Chg 0 0 w w7→zi w7 (w.heap.size+1) 5 dv us→
   Chg 0 0 w (((w7.setCell (zd w.heap.size) (.bool g)).setCell ⟨w.heap.size,1,none⟩ dv).setCell ⟨w.heap.size,2,none⟩ (.bool e))∧zi (((w7.setCell (zd w.heap.size) (.bool g)).setCell ⟨w.heap.size,1,none⟩ dv).setCell ⟨w.heap.size,2,none⟩ (.bool e)) w.heap.size 5 dv us):=fin
 have s0:(w.alloc (.cells #[.bool false,zc,.bool false] 173)).heap.size=w.heap.size+1:=by simp
 clear fin C0;by_cases hx:xs.length=64
 ·obtain⟨xb,xo,rfl⟩: ∃xb xo,ao=some ⟨xb,xo,none⟩:=by
   obtain⟨_,_,e,_,_,hcell⟩:=v0
   cases e
   rcases hcell with e|⟨x,o,e,_,_,_⟩
   ·rw[e] at hx;simp at hx
   ·exact⟨x,o,e⟩
  have hne:((64:Int) !=64)=false:=by simp
  have Hx:Hid (xs.length=64):=hx;have HD:Hid (E7 xs=jy xs∧aaE xs=true∧E8 xs=decide (xs.take 4=mg)):=by
   refine⟨by unfold E7;rw[if_pos hx],by unfold aaE;rw[decide_eq_true hx],by unfold E8;rw[decide_eq_true hx];rfl⟩
  have hcn: ¬cap=4:=by
   obtain⟨_,_,e,_,⟨hc,_⟩,_⟩:=v0;rw[hx] at e hc
   cases e;omega
  have hc4:4≤cap:=by
   obtain⟨_,_,e,_,⟨hc,_⟩,_⟩:=v0;rw[hx] at e hc
   cases e;omega
  rw[hx] at v0⊢;have HV:Hid (zr (w.alloc (.cells #[.bool false,zc,.bool false] 173)) lo hi .u8 (.slice (some ⟨xb,xo,none⟩) 64 cap) xs):=v0;have HB:Hid (Byt xs):=hB;have hN:=Ku _ hB v0;have hb:beg xs=decide (xs.take 4=mg):=by unfold beg;rw[decide_eq_true (by omega)];rfl
  rw[hb] at hN;by_cases hm:xs.take 4=mg
  ·have HEs:Hid (jy xs=List.replicate 4 0++xs.drop 4∧decide (xs.take 4=mg)=true):=⟨by unfold jy;rw[if_pos hm];rfl,decide_eq_true hm⟩;rw[decide_eq_true hm] at hN;clear hb hm v0 hx hB;go_enter Tryz.func85,Tryz.ntmps85;go_wp2_with fail;generalize w.alloc (.cells #[.bool false,zc,.bool false] 173)=wq at*;refine hN.mono ?_;rintro e w1 ⟨rfl,hc1⟩;have s1:=hc1.size;have HV60:Hid (zr w1 lo hi .u8 (.slice (some ⟨xb,xo+4,none⟩) 60 (cap-4)) (xs.drop 4)):=(HV.out.drop4 Hx.out).chg hc1 (by omega)
   have HR1:Hid (w1.heap[w.heap.size]?=some (.cells #[.bool false,zc,.bool false] 173 (0,0))):=(hc1.block w.heap.size (gLt HR0.out) (by omega)).trans HR0.out;have HC1:Hid (Chg 0 0 w w1):=HC0.out.trans hc1;have Hl60:Hid ((xs.drop 4).length=60):=by show _=_;rw[List.length_drop,Hx.out]
   clear hN hc1;go_upto_region 4 with fail;go_cut [12] (fun s12 wx=> ∃(w7:World),wx=((w7.setCell (zd w.heap.size) (.bool true)).setCell ⟨w.heap.size,1,none⟩ s12).setCell ⟨w.heap.size,2,none⟩ (.bool true)∧w7.heap[w.heap.size]?=some (.cells #[.bool false,zc,.bool false] 173 (0,0))∧Chg 0 0 w w7∧zi w7 (w.heap.size+1) 5 s12 (List.replicate 4 0++xs.drop 4))
   case first=>
    have hsz:w1.drew.heap.size=w1.heap.size:=rfl;go_region_with (first
     |(go_at_call 44;refine(qM _ 4 (by omega)).mono ?_;rintro e w' ⟨g,rfl,ho,hc⟩)
     |(go_at_call 47;refine(jF (xs:=List.replicate 4 0) (ys:=xs.drop 4) (lo':=lo) _ (by simp) (by rw[Hl60.out];omega) (ho.view (hi:=w'.heap.size) (by simp) (fun g hg=>(ho.lt g hg).2)) ((HV60.out.chg ((Chg.drew (Chg.refl 0 0 w1)).trans hc) (by omega)).mono (Nat.le_refl _) (by have:=hc.size;omega)) (by rw[Hl60.out];omega)).mono ?_;rintro e w'' ⟨vj,rfl,oj,hj⟩
       have HCd:Hid (Chg 0 0 w1 w''):=((Chg.drew (Chg.refl 0 0 w1)).trans hc).trans hj
       have HRj:Hid (w''.heap[w.heap.size]?=some (.cells #[.bool false,zc,.bool false] 173 (0,0))):=(HCd.out.block w.heap.size (gLt HR1.out) (by omega)).trans HR1.out
       have HOj:Hid (zi w'' (w.heap.size+1) 5 vj (List.replicate 4 0++xs.drop 4)):=oj.base (fun g hg=>by have:=(oj.lt g hg).1;have:=hc.size;omega)
       obtain⟨⟨r0,r1,r2⟩,rf0,rf1,rf2⟩:=QJ HRj.out
       obtain⟨e0,e1,e2,rfl⟩:=zx oj))
    all_goals (try go_wp2)
    all_goals (go_meet;exact⟨w'',rfl,HRj.out,HC1.out.trans HCd.out,HOj.out⟩)
   case rest=>
    obtain⟨w7,rfl,hb7,hc7,ho7⟩:=hcut;obtain⟨f1,f2⟩:=Hfin.out w7 true true u12 _ hb7 hc7 ho7;obtain⟨⟨r0,r1,r2⟩,rf0,rf1,rf2⟩:=QJ hb7;obtain⟨e0,e1,e2,rfl⟩:=zx ho7;have F1:Hid _:=f1;have F2:Hid _:=f2;clear hb7 hc7 ho7 f1 f2;go_wp2;rw[HD.out.1,HD.out.2.1,HD.out.2.2,HEs.out.1,HEs.out.2];exact bodyPost_ret (v:= .agg #[.bool true,.slice e0 e1 e2,.bool true]) (by simp[results,Tryz.results85,go_sem,r0,r1,r2]) rfl ⟨_,rfl,F2.out,F1.out⟩
  ·have HEs:Hid (jy xs=xs∧decide (xs.take 4=mg)=false):=⟨by unfold jy;rw[if_neg hm],decide_eq_false hm⟩;rw[decide_eq_false hm] at hN;clear hb hm v0 hx hB;go_enter Tryz.func85,Tryz.ntmps85;go_wp2_with fail;generalize w.alloc (.cells #[.bool false,zc,.bool false] 173)=wq at*;refine hN.mono ?_;rintro e w1 ⟨rfl,hc1⟩;have s1:=hc1.size;have hN2:=ZM w1 hl (HV.out.chg hc1 (by omega));have HR1:Hid (w1.heap[w.heap.size]?=some (.cells #[.bool false,zc,.bool false] 173 (0,0))):=(hc1.block w.heap.size (gLt HR0.out) (by omega)).trans HR0.out
   have HC1:Hid (Chg 0 0 w w1):=HC0.out.trans hc1;clear hN hc1;go_wp2_with fail;refine hN2.mono ?_;rintro e w2 ⟨v2,rfl,o2,hc2⟩;have hb2:=(hc2.block w.heap.size (gLt HR1.out) (by omega)).trans HR1.out;obtain⟨⟨r0,r1,r2⟩,rf0,rf1,rf2⟩:=QJ hb2;obtain⟨f1,f2⟩:=Hfin.out w2 true false v2 xs hb2 (HC1.out.trans hc2) (o2.base (fun g hg=>by have:=(o2.lt g hg).1;omega));obtain⟨e0,e1,e2,rfl⟩:=zx o2;have F1:Hid _:=f1
   have F2:Hid _:=f2;clear hN2 o2 hc2 hb2 f1 f2;go_wp2;rw[HD.out.1,HD.out.2.1,HD.out.2.2,HEs.out.1,HEs.out.2];exact bodyPost_ret (v:= .agg #[.bool true,.slice e0 e1 e2,.bool false]) (by simp[results,Tryz.results85,go_sem,r0,r1,r2]) rfl ⟨_,rfl,F2.out,F1.out⟩
 ·have HD:Hid (E7 xs= []∧aaE xs=false∧E8 xs=false):=by
   refine⟨by unfold E7;rw[if_neg hx],by unfold aaE;rw[decide_eq_false hx],by unfold E8;rw[decide_eq_false hx];rfl⟩
  have hne:((xs.length:Int) !=64)=true:=by simp;omega
  obtain⟨⟨r0,r1,r2⟩,rf0,rf1,rf2⟩:=QJ HR0.out;clear v0 hx;go_enter Tryz.func85,Tryz.ntmps85;go_wp2;rw[HD.out.1,HD.out.2.1,HD.out.2.2];exact bodyPost_ret (v:= .agg #[.bool false,zc,.bool false]) (by simp[results,Tryz.results85,go_sem,r0,r1,r2]) rfl ⟨_,rfl,zi.nothing _ _ _,HC0.out⟩
end Go.Proofs.YtacjklochmelfaaGreatDoor
