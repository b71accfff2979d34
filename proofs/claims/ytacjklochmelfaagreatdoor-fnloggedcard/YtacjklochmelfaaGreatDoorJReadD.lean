import Derived.Test.YtacjklochmelfaaGreatDoorTagOwn
import Derived.Test.YtacjklochmelfaaGreatDoorRowsE
import Derived.Test.YtacjklochmelfaaGreatDoorSpecBody2
import Derived.Test.YtacjklochmelfaaGreatDoorJReadC
namespace Go.Proofs.YtacjklochmelfaaGreatDoor
open Go.RowKit
set_option maxRecDepth 100000
set_option maxHeartbeats 16000000
theorem ab6 (z:Value)(m n:Nat)(hm:0<m):(madeCells (List.replicate m z).toArray n).toList=List.replicate n z:=by
 apply List.ext_getElem?;intro j;by_cases hj:j<n
 ·have:j % m<m:=Nat.mod_lt _ hm;simp[madeCells,hj,this]
 ·simp[madeCells,hj]
theorem Jh (A B:List (Int×Bool)):qN (A++B)=qN A++qN B:=by unfold qN;rw[List.flatMap_append]
theorem Ud (n:Nat):(madeCells #[za 0,.bool false] (n*2)).toList=qN (List.replicate n (0,false)):=by
 apply List.ext_getElem?;intro j;by_cases hj:j<n*2
 ·have hn:j/2<n:=by omega
  obtain⟨e1,e2⟩:=aaN (za 0) (.bool false) n (j/2) hn;obtain⟨f1,f2⟩:=Xv (List.replicate n (0,false)) (j/2) (by simpa using hn);have g:(List.replicate n ((0:Int),false)).getD (j/2) (0,false)=(0,false):=by simp[List.getD_eq_getElem?_getD,hn]
  rw[g] at f1 f2;rcases Nat.mod_two_eq_zero_or_one j with h|h
  ·rw[show j=j/2*2 by omega,e1,f1]
  ·rw[show j=j/2*2+1 by omega,e2,f2]
 ·rw[List.getElem?_eq_none (by simp[madeCells];omega),List.getElem?_eq_none (by rw[ZB];simp;omega)]
theorem ED (A:List (Int×Bool))(m k:Nat)(hk:A.length=k)(x:Int)(e:Bool):((qN (A++List.replicate (m+1) (0,false))).set (k*2) (za x)).set (k*2+1) (.bool e)=qN (A++ [(x,e)]++List.replicate m (0,false)):=by
 have hl:(qN A).length=k*2:=by rw[ZB,hk]
 have e1:qN (List.replicate (m+1) ((0:Int),false))=za 0:: .bool false::qN (List.replicate m (0,false)):=by rw[List.replicate_succ];rfl
 rw[Jh,Jh,Jh,e1,List.set_append_right _ _ (by omega),List.set_append_right _ _ (by omega),hl,Nat.sub_self,Nat.add_sub_cancel_left];simp[qN]
theorem QQ {P:Program}{ops:Array Oper}{rest:List Oper}{o:Oper}{a:Act}{w:World}{Q:Exit→Act→World→Prop}(hgd:o.guard=none)(T:TypeId)(p v:Operand)(ho:o.op= .store T p v)(hd:o.dst=none)(g off:Nat)(hp:a.eval p= .pointer (some ⟨g,off,none⟩))
  (full L:List Value) (t:TypeId) (hv:a.eval v= .agg full.toArray) (hg:w.heap[g]?=some (.cells L.toArray t (0,0))) (hl:off+full.length≤L.length) (hi:(P.info? T).map (·.size)=some full.length) (h1: ∀v∈full,v.oneCell'=true)
  (h: ∀w',Hid (w'.heap[g]?=some (.cells (splice L off full).toArray t (0,0)))→Chg g (g+1) w w'→wpList P ops Q rest a w'):wpList P ops Q (o::rest) a w:=by
 have ht:w.there g off full.toArray.size:=by
  intro j hj;have hj':j<full.length:=by simpa using hj
  refine⟨?_,?_⟩
  ·simp only[World.cell?,hg];simp;omega
  ·simp[World.frozen?,hg]
 refine wpList_plain hgd fun K hK=>?_;refine wp_store_mid T p v ho g off full.toArray hp hv ht (by simpa using hi) (by rw[Array.all_eq_true_iff_forall_mem];intro x hx;exact h1 x (by simpa using hx)) ?_;rw[hd];exact hK _ _ (h _ (jb g t full off w L hg hl) (Chg.setCells g _ off w))
theorem abB (w:World)(a:Addr)(n cap:Nat)(hn:64≤n):(Instr.arrayAt 72 (.slice (some a) n cap)).run Tryz.prog w= .ok (.pointer (some a)) w:=by
 have: ¬n<64:=by omega
 simp[Instr.arrayAt,run_underlying Tryz.underlying72,this]
theorem Tryz.infoBk:(Tryz.prog.info? 72).map (fun i=>(i.zero,i.size,i.bytes))=some (some (.agg (List.replicate 64 (zb 0)).toArray),64,64):=by kernel_rfl
theorem N7 {w:World}{base g n size:Nat}{e:TypeId}{xs:List Value}(h:w.ownsRow base e size (.slice (some (zd g)) n n) n xs):qq w g e xs∧base≤g:=by
 obtain⟨h1,h2⟩:=h;rcases h2 with⟨e,_⟩|⟨g',cap,cur,e,hg,hh,hc,hm,hs,ht⟩
 ·cases e
 ·cases e
  refine⟨?_,hg⟩;unfold qq;rw[hh];have:xs=cur.toList:=by rw[←ht];exact List.take_of_length_le (by rw[Array.length_toList,hs];exact Nat.le_refl _)
  rw[this]
def Qt (hs:List Wr) (k:Nat):List Value:=List.replicate 64 (zb 0)++(Zi (hs.take k)).map (Value.int .u8)++List.replicate (64*(hs.length-k)) (zb 0)
theorem abE {hs:List Wr}(h: ∀x∈hs,x.2.length=64){k:Nat}(hk:k<hs.length):splice (Qt hs k) (64+64*k) ((jy (hs.getD k (0,[])).2).map (Value.int .u8))=Qt hs (k+1):=by
 have hd:=h _ (List.getElem_mem hk);have hx:hs.getD k (0,[])=hs[k]:=by simp[List.getD_eq_getElem?_getD,hk]
 rw[←hx] at hd;unfold Qt;rw[Uc _ _ _ _ _ (by rw[List.length_append,List.length_map,List.length_replicate,Xc (fun x hx=>h x (List.mem_of_mem_take hx)),List.length_take,Nat.min_eq_left (by omega)]),VS hk,List.map_append,List.length_map,ji hd,List.append_assoc (List.replicate 64 _)];congr 2;omega
theorem Yc {hs:List Wr}(h: ∀x∈hs,x.2.length=64){k:Nat}(hk:k≤hs.length):(Qt hs k).length=64+64*hs.length:=by
 unfold Qt;rw[List.length_append,List.length_append,List.length_map,List.length_replicate,List.length_replicate,Xc (fun x hx=>h x (List.mem_of_mem_take hx)),List.length_take,Nat.min_eq_left (by omega)];omega
theorem aaA (hs:List Wr):Qt hs 0=List.replicate ((1+hs.length)*64) (zb 0):=by
 unfold Qt;rw[List.take_zero];show _++ []++_=_;rw[List.append_nil,List.replicate_append_replicate];congr 1;omega
theorem aaz {q:Int}{hs:List Wr}(hd:(Qu q hs).length=64):splice (Qt hs hs.length) 0 ((Qu q hs).map (Value.int .u8))=((zG q hs).flatten).map (Value.int .u8):=by
 unfold Qt;rw[List.take_length,Nat.sub_self];unfold splice;rw[List.take_zero,List.nil_append,List.length_map,hd,List.append_assoc,List.drop_append,List.drop_eq_nil_of_le (by simp)];unfold zG Zi;simp
theorem YG (w:World){lo hi:Nat}(q:Int)(hs:List Wr)(b off cap:Nat)(hok:OkT q hs [])(h0:1≤hs.length)(hl:hs.length≤17)(hM:Mag w)
  (h1: ∀i,i<hs.length→ ∃dv,w.cell? ⟨b,off+i*2,none⟩=some (za (hs.getD i (0,[])).1)∧w.cell? ⟨b,off+i*2+1,none⟩=some dv∧zr w lo hi .u8 dv (hs.getD i (0,[])).2):
  Calls Tryz.prog 99 #[za q,.slice (some ⟨b,off,none⟩) hs.length cap] w fun e w'=> ∃g,e= .returned (.slice (some (zd g)) (1+hs.length) (1+hs.length))∧w.heap.size≤g∧qq w' g 72 ((zG q hs).flatten.map (Value.int .u8))∧Chg 0 0 w w':=by
 obtain⟨n,hn⟩: ∃n,n=hs.length:=⟨_,rfl⟩;have Hn:Hid _:=hn;have HOK:Hid (OkT q hs []):=hok;have HM:Hid (Mag w):=hM;have H1:Hid _:=h1;rw[←hn] at h0 hl⊢;clear hok hM h1 hn;obtain⟨it,hit,tz0,tz1,tz2⟩:=info_parts Tryz.infoG;obtain⟨ib,hib,bz0,bz1,bz2⟩:=info_parts Tryz.infoBk;have e1n:IntKind.i64.wrap (1+(n:Int))=1+(n:Int):=by rw[IntKind.wrap_i64];omega
 go_enter Tryz.func99,Tryz.ntmps99;go_wp2_with (at_make;refine wpList_make_full _ rfl _ _ 169 rfl w.heap.size 176 it _ 2 Tryz.underlying169 hit tz0 tz1 _ _ _ _ n rfl rfl rfl rfl (by rw[tz2];omega) (by unfold maxLen;omega) (by omega) ?_);intro w1 hown1 hgr1;obtain⟨ha1,_⟩:=N7 hown1;have hc1:Chg 0 0 w w1:=Chg.ofGrown hgr1 (by simp);have HA1:Hid (qq w1 w.heap.size 176 (qN (List.replicate n (0,false)))):=by show qq _ _ _ _;rw[←Ud];exact ha1
 have HC1:Hid _:=hc1;have s1:=ha1.lt;clear hown1 hgr1 ha1 hc1;go_wp2_with (at_make;refine wpList_make_full _ rfl _ _ 80 rfl w.heap.size 72 ib _ 64 Tryz.underlying80 hib bz0 bz1 _ _ _ _ (1+n) rfl rfl (by omega) (by omega) (by rw[bz2];omega) (by unfold maxLen;omega) (by omega) ?_);intro w2 hown2 hgr2;obtain⟨ha2,_⟩:=N7 hown2;have hc2:Chg 0 0 w1 w2:=Chg.ofGrown hgr2 (by simp);have HB2:Hid (qq w2 w1.heap.size 72 (Qt hs 0)):=by show qq _ _ _ _;rw[aaA,←Hn.out,←ab6 (zb 0) 64 ((1+n)*64) (by omega)];exact ha2
 have HA2:Hid _:=HA1.out.chg hc2 (by omega);have HC2:Hid _:=HC1.out.trans hc2;have s2:=ha2.lt;clear hown2 hgr2 ha2 hc2 HA1 HC1;generalize w1.heap.size=gB at*;go_wp2;go_loopw [20] (fun x wr=> ∃k:Nat,k≤n∧x=za k∧qq wr w.heap.size 176 (qN ((hs.take k).map zQ++List.replicate (n-k) (0,false)))∧qq wr gB 72 (Qt hs k)∧Chg 0 0 w wr) (fun x _=>n-(intOf x).toNat)
 case atStart=>exact⟨0,Nat.zero_le _,rfl,HA2.out,HB2.out,HC2.out⟩
 case round=>
  clear HA2 HB2 HC2;obtain⟨k,hk,rfl,ha,hb,hc⟩:=hrel;by_cases hlt:k<n
  ·have hlx:k<hs.length:=by have:=Hn.out;omega
   have hi':(k:Int)<(n:Int):=by omega
   obtain⟨dv,r1,r2,r3⟩:=H1.out k hlx;have c1:=hc.cell r1 (by omega);have c2:=hc.cell r2 (by omega);have v3:=r3.chg hc (by omega);have hx:hs.getD k (0,[])=hs[k]:=by simp[List.getD_eq_getElem?_getD,hlx]
   have hdat:=HOK.out.data _ (List.getElem_mem hlx);have hbyt:=HOK.out.byt _ (List.getElem_mem hlx);rw[←hx] at hdat hbyt;obtain⟨xb,xo,xc,rfl,hxr⟩: ∃xb xo xc,dv= .slice (some ⟨xb,xo,none⟩) 64 xc∧wr.rangeAt xb xo ((hs.getD k (0,[])).2.map (Value.int .u8)):=by
    obtain⟨ao,xc,e,_,_,h⟩:=v3;rcases h with h|⟨xb,xo,rfl,_,_,h3⟩
    ·rw[h] at hdat;simp at hdat
    ·refine⟨xb,xo,xc,by rw[e,hdat],fun j v hj=>?_⟩;have hjl:j<(hs.getD k (0,[])).2.length:=by have:=(List.getElem?_eq_some_iff.1 hj).1;simpa using this
     rw[h3 j hjl,←hj];simp only[List.getD_eq_getElem?_getD] at hjl⊢;simp[hjl]
   have HPut:Hid _:=abE HOK.out.data hlx;have HBl:Hid ((Qt hs k).length=64+64*n):=by show _=_;rw[Yc HOK.out.data (by omega),Hn.out]
   have HTg:Hid (((qN ((hs.take k).map zQ++List.replicate (n-k) (0,false))).set (k*2) (za (hs.getD k (0,[])).1)).set (k*2+1) (.bool (decide ((hs.getD k (0,[])).2.take 4=mg)))=qN ((hs.take (k+1)).map zQ++List.replicate (n-(k+1)) (0,false))):=by
    show _=_;rw[show n-k=n-(k+1)+1 by omega,ED _ _ _ (by rw[List.length_map,List.length_take];omega),Ug hlx];rfl
   have HTl:Hid ((qN ((hs.take k).map zQ++List.replicate (n-k) (0,false))).length=n*2):=by
    show _=_;rw[ZB,List.length_append,List.length_map,List.length_take,List.length_replicate];omega
   have hM:=HM.out.chg hc (by omega);have HA:Hid (qq wr w.heap.size 176 (qN ((hs.take k).map zQ++List.replicate (n-k) (0,false)))):=ha;have HB:Hid (qq wr gB 72 (Qt hs k)):=hb;have HC:Hid _:=hc;have HEl:Hid _:=ji hdat;have HXl:Hid _:=hdat;have HXb:Hid _:=hbyt;have hgB:=hb.lt;have hgw:=ha.lt;generalize qN ((hs.take k).map zQ++List.replicate (n-k) (0,false))=tC at*;generalize Qt hs k=bC at*;clear r1 r2 r3 v3 hx hdat hbyt ha hb hc
   generalize hs.getD k (0,[])=hk0 at*;obtain⟨x,dat⟩:=hk0;simp only at c1 hxr HPut HTg HEl HXl HXb;obtain⟨cs,hcs⟩: ∃cs,cs=dat.map (Value.int .u8):=⟨_,rfl⟩;have HXr:Hid (wr.rangeAt xb xo cs):=by show wr.rangeAt _ _ _;rw[hcs];exact hxr
   have hcl:cs.length=64:=by rw[hcs,List.length_map];exact HXl.out
   have hics:(Tryz.prog.info? 72).map (·.size)=some cs.length:=by rw[hcl];kernel_rfl
   have hN:=fun W (h:Mag W)=>Vd W dat HXl.out HXb.out h;rw[←hcs] at hN;obtain⟨es,hes⟩: ∃es,es=(jy dat).map (Value.int .u8):=⟨_,rfl⟩;rw[←hes] at hN;obtain⟨ee,hee⟩: ∃ee,ee=decide (dat.take 4=mg):=⟨_,rfl⟩;rw[←hee] at hN;have Hes:Hid _:=hes;have Hee:Hid _:=hee;have Hesl:Hid (es.length=64):=by show _=_;rw[hes,List.length_map];exact HEl.out
   have HesV:Hid (∀v∈es,v.oneCell'=true):=by show∀v∈es,v.oneCell'=true;rw[hes];exact ints_oneCell _ _
   have hies:(Tryz.prog.info? 72).map (·.size)=some es.length:=by rw[Hesl.out];kernel_rfl
   rw[←hes] at HPut;rw[←hee] at HTg;clear hcs hes hee hcl;have har:=fun w'=>abB w' ⟨xb,xo,none⟩ 64 xc (by omega);have u44:=Tryz.underlying72;have C3:Chg 0 0 wr (wr.alloc (.cells #[za x,.slice (some ⟨xb,xo,none⟩) 64 xc] 61)):=Chg.alloc (Chg.refl 0 0 wr) _;have HH3:Hid ((wr.alloc (.cells #[za x,.slice (some ⟨xb,xo,none⟩) 64 xc] 61)).heap[wr.heap.size]?=some (.cells #[za x,.slice (some ⟨xb,xo,none⟩) 64 xc] 61 (0,0))):=zh _ _
   have HA3:Hid (qq (wr.alloc (.cells #[za x,.slice (some ⟨xb,xo,none⟩) 64 xc] 61)) w.heap.size 176 tC):=HA.out.chg C3 (by omega);have HB3:Hid (qq (wr.alloc (.cells #[za x,.slice (some ⟨xb,xo,none⟩) 64 xc] 61)) gB 72 bC):=HB.out.chg C3 (by omega);have HC3:Hid _:=HC.out.trans C3;have HX3:Hid ((wr.alloc (.cells #[za x,.slice (some ⟨xb,xo,none⟩) 64 xc] 61)).rangeAt xb xo cs):=fun j v hj=>C3.cell (HXr.out j v hj) (by omega)
   have hM3:=hM.chg C3 (by omega);have s3:(wr.alloc (.cells #[za x,.slice (some ⟨xb,xo,none⟩) 64 xc] 61)).heap.size=wr.heap.size+1:=by simp
   clear C3 HA HB HC HXr hxr hM;go_upto_region 6 with fail;clear c1 c2;generalize wr.alloc (.cells #[za x,.slice (some ⟨xb,xo,none⟩) 64 xc] 61)=w3 at*;obtain⟨d0,d1,_,_⟩:=zn HH3.out;go_wp2_with (refine wpList_load_mid rfl 72 (.tmp 28) rfl xb xo rfl cs _ HX3.out u44 rfl hics ?_);refine(hN w3 hM3).mono ?_;rintro e w4 ⟨rfl,h4⟩;have HH4:Hid _:=(h4.block _ (by omega) (by omega)).trans HH3.out;have C5:Chg 0 0 w4 (w4.alloc (.cells Z64.toArray 72)):=Chg.alloc (Chg.refl 0 0 w4) _
   have s4:=h4.size;have hZ:(w4.alloc (.cells Z64.toArray 72)).heap[w4.heap.size]?=some (.cells Z64.toArray 72 (0,0)):=zh _ _;rw[←zM] at hZ;have HZ:Hid (_=_):=hZ;have HA5:Hid (qq (w4.alloc (.cells Z64.toArray 72)) w.heap.size 176 tC):=(HA3.out.chg h4 (by omega)).chg C5 (by omega);have HB5:Hid (qq (w4.alloc (.cells Z64.toArray 72)) gB 72 bC):=(HB3.out.chg h4 (by omega)).chg C5 (by omega);have HC5:Hid _:=(HC3.out.trans h4).trans C5
   have HH5:Hid _:=(C5.block _ (by omega) (by omega)).trans HH4.out;clear hZ h4 C5 HA3 HB3 HC3 HH3 HH4 HX3 hN d0 d1 hM3;rw[←zM] at HA5 HB5 HC5 HH5;go_upto_region 7 with(refine wpList_store_row rfl 72 (.tmp 9) (.tmp 31) rfl rfl w4.heap.size rfl es _ 72 rfl HZ.out (by rw[Hesl.out];rfl) hies HesV.out ?_;intro w5 hb5 hc5);have HA6:Hid (qq w5 w.heap.size 176 tC):=HA5.out.chg hc5 (by omega);have HB6:Hid (qq w5 gB 72 bC):=HB5.out.chg hc5 (by omega)
   have HC6:Hid _:=HC5.out.step hc5 (by omega);have hH6:=(hc5.block _ (gLt HH5.out) (by omega)).trans HH5.out;obtain⟨d0,d1,_,_⟩:=zn hH6;have HR6:Hid _:=hb5;have t0:=HA6.out.cell (k*2) (List.getElem?_eq_getElem (show k*2<tC.length by rw[HTl.out];omega));have t1:=HA6.out.cell (k*2+1) (List.getElem?_eq_getElem (show k*2+1<tC.length by rw[HTl.out];omega));have f0:=HA6.out.frozen (k*2);have f1:=HA6.out.frozen (k*2+1)
   generalize tC[k*2]'(by rw[HTl.out];omega)=tv0 at*;generalize tC[k*2+1]'(by rw[HTl.out];omega)=tv1 at*;clear HZ HA5 HB5 HC5 HH5 hb5 hc5 hH6;have HA7:Hid (qq ((w5.setCell ⟨w.heap.size,k*2,none⟩ (za x)).setCell ⟨w.heap.size,k*2+1,none⟩ (.bool ee)) w.heap.size 176 (qN ((hs.take (k+1)).map zQ++List.replicate (n-(k+1)) (0,false)))):=by
    show qq _ _ _ _;rw[←HTg.out];exact(HA6.out.put (k*2) _).put (k*2+1) _
   have C7:Chg w.heap.size (w.heap.size+1) w5 ((w5.setCell ⟨w.heap.size,k*2,none⟩ (za x)).setCell ⟨w.heap.size,k*2+1,none⟩ (.bool ee)):=Chg.setCell (Chg.setCell (Chg.refl _ _ _) (p:=⟨w.heap.size,k*2,none⟩) (Or.inl ⟨Nat.le_refl _,Nat.lt_succ_self _⟩) _) (p:=⟨w.heap.size,k*2+1,none⟩) (Or.inl ⟨Nat.le_refl _,Nat.lt_succ_self _⟩) _;have HB7:Hid _:=HB6.out.chg C7 (by omega);have HC7:Hid _:=HC6.out.step C7 (by omega)
   have hR7:=(C7.block _ (gLt HR6.out) (by omega)).trans HR6.out;have HR7:Hid _:=zj hR7;clear C7 HA6 HB6 HC6 HR6 hR7;go_upto_region 8 with fail;clear t0 t1 f0 f1 d0 d1;generalize ((w5.setCell ⟨w.heap.size,k*2,none⟩ (za x)).setCell ⟨w.heap.size,k*2+1,none⟩ (.bool ee))=w7 at*;have q1:IntKind.i64.wrap (1+(k:Int))=1+(k:Int):=by rw[IntKind.wrap_i64];omega
   have q2:1+(k:Int)<((1+n:Nat):Int):=by omega
   have q3:(1+(k:Int)).toNat*64=64+64*k:=by omega
   go_wp2_with (first
    |(refine wpList_load_mid rfl 72 (.tmp 9) rfl w4.heap.size 0 rfl es _ HR7.out u44 rfl hies ?_)
    |(refine QQ rfl 72 (.tmp 44) (.tmp 43) rfl rfl gB (64+64*k) rfl es bC 72 rfl HB7.out (by rw[HBl.out,Hesl.out];omega) hies HesV.out ?_;intro w8 hb8 hc8))
   have HB8:Hid (qq w8 gB 72 (Qt hs (k+1))):=by show qq _ _ _ _;rw[←HPut.out];exact hb8.out
   have HA8:Hid _:=HA7.out.chg hc8 (by omega);have HC8:Hid _:=HC7.out.step hc8 (by omega);clear hb8 hc8 HA7 HB7 HC7 HR7 q1 q2 q3;go_wp2;go_roundw
   case rel=>exact⟨k+1,by omega,by go_num,HA8.out,HB8.out,HC8.out⟩
   case measure=>simp[intOf];omega
  ·obtain rfl:k=n:=by omega
   have hge: ¬((k:Int)<(k:Int)):=by omega
   have ht:hs.take k=hs:=List.take_of_length_le (by have:=Hn.out;omega);rw[ht,Nat.sub_self] at ha;simp only[List.replicate_zero,List.append_nil] at ha;have hgB:=hb.lt;have hgw:=ha.lt;have hM:=HM.out.chg hc (by omega);have hl17:(hs.map zQ).length=k:=by rw[List.length_map];exact Hn.out.symm
   have HDl:Hid ((Qu q hs).length=64):=E4 HOK.out.q0 HOK.out.q1 (by rw[←Hn.out];omega) HOK.out.homes_in;have HTC:Hid (∀W,Chg 0 0 wr W→ ∀i,i<(hs.map zQ).length→W.cell? ⟨w.heap.size,0+i*2,none⟩=some (za ((hs.map zQ).getD i (0,false)).1)∧W.cell? ⟨w.heap.size,0+i*2+1,none⟩=some (.bool ((hs.map zQ).getD i (0,false)).2)):=fun W hW i hi=>by
    obtain⟨e1,e2⟩:=Xv (hs.map zQ) i hi;rw[Nat.zero_add];exact⟨hW.cell (ha.cell _ e1) (by omega),hW.cell (ha.cell _ e2) (by omega)⟩
   have hqq:q≤9223372036854775807:=by have:=HOK.out.q1;omega
   have HEnc:Hid (∀W,Chg 0 0 wr W→Calls Tryz.prog 123 #[.agg #[zb 106,zb 108,zb 111,zb 103,za 2,za k,za q,.slice (some (zd w.heap.size)) k k]] W fun e w'=>e= .returned (.agg ((Qu q hs).map (Value.int .u8)).toArray)∧Chg 0 0 W w'):=fun W hW=>by
    have h:=QZ W k q (hs.map zQ) w.heap.size 0 k (by omega) hqq (pn2 (by omega) (by omega)) (pn4 (by have:=HOK.out.q0;omega) HOK.out.q1) (by rw[hl17];omega) (fun x hx=>by obtain⟨y,hy,rfl⟩:=List.mem_map.1 hx;exact HOK.out.homes_in y hy) (HTC.out W hW);rw[hl17] at h;unfold Qu;rw[←Hn.out];exact h
   have HLast:Hid (splice (Qt hs k) 0 ((Qu q hs).map (Value.int .u8))=((zG q hs).flatten).map (Value.int .u8)):=by show _=_;rw[Hn.out];exact aaz HDl.out
   have HBl:Hid ((Qt hs k).length=64+64*k):=by show _=_;rw[Yc HOK.out.data (by rw[Hn.out];omega),←Hn.out]
   have HB:Hid (qq wr gB 72 (Qt hs k)):=hb;have HC:Hid _:=hc;obtain⟨ds,hds⟩: ∃ds,ds=(Qu q hs).map (Value.int .u8):=⟨_,rfl⟩;rw[←hds] at HEnc HLast;have Hdl:Hid (ds.length=64):=by show _=_;rw[hds,List.length_map];exact HDl.out
   have HdV:Hid (∀v∈ds,v.oneCell'=true):=by show∀v∈ds,v.oneCell'=true;rw[hds];exact ints_oneCell _ _
   have hids:(Tryz.prog.info? 72).map (·.size)=some ds.length:=by rw[Hdl.out];kernel_rfl
   have q2:(0:Int)<((1+k:Nat):Int):=by omega
   generalize Qt hs k=bC at*;clear hds ha hb hc hl17 ht;go_wp2_with fail;refine(JU wr q w.heap.size 0 k k (by omega) hM).mono ?_;rintro e w2 ⟨rfl,h2⟩;have HC2:Hid _:=HC.out.trans h2;have HB2:Hid (qq w2 gB 72 bC):=HB.out.chg h2 (by omega);have hN:=HEnc.out w2 h2;clear h2 HB HC;go_wp2_with fail;refine hN.mono ?_;rintro e w3 ⟨rfl,h3⟩;have HC3:Hid _:=HC2.out.trans h3;have HB3:Hid _:=HB2.out.chg h3 (by omega)
   clear h3 HB2 HC2 hN;go_wp2_with (refine QQ rfl 72 (.tmp 52) (.tmp 51) rfl rfl gB 0 rfl ds bC 72 rfl HB3.out (by rw[HBl.out,Hdl.out];omega) hids HdV.out ?_;intro w4 hb4 hc4);have HB4:Hid (qq w4 gB 72 ((zG q hs).flatten.map (Value.int .u8))):=by show qq _ _ _ _;rw[←HLast.out];exact hb4.out
   have HC4:Hid _:=HC3.out.step hc4 (by omega);have HgB:Hid (w.heap.size≤gB):=by show _≤_;omega
   clear hb4 hc4 HB3 HC3;go_wp2;go_ret;exact⟨_,rfl,HgB.out,HB4.out,HC4.out⟩
theorem Tryz.infoT9:(Tryz.prog.info? 176).map (fun i=>(i.zero,i.size,i.bytes))=some (some (.agg #[za 0,.bool false]),2,16):=by kernel_rfl
abbrev aa8 (n:Nat):Obj:= .cells (qN (List.replicate n (0,false))).toArray 176
abbrev Up:Obj:= .cells #[zb 0,zb 0,zb 0,zb 0,za 0,za 0,za 0,zc] 219
theorem XS (n:Nat)(hn:n≤1048576)(w:World):(Instr.makeSlice 169 (za n) (za n)).run Tryz.prog w= .ok (.slice (some (zd w.heap.size)) n n) (w.alloc (aa8 n)):=by
 obtain⟨i,hi,hz0,hz1,hz2⟩:=info_parts Tryz.infoT9;have h:=run_make (P:=Tryz.prog) w 169 176 i _ Tryz.underlying169 hi hz0 .i64 .i64 n n (by omega) (Int.le_refl _) (by rw[hz2];omega) (by omega);have e:((n:Int)).toNat=n:=by omega
 have e2:madeCells #[za 0,.bool false] (n*2)=(qN (List.replicate n (0,false))).toArray:=by
  rw[←Ud]
 rw[h,hz1,e];show Result.ok _ (w.alloc (.cells (madeCells #[za 0,.bool false] (n*2)) 176))=_;rw[e2]
theorem EL {P:Program}{o:Oper}{a:Act}{w:World}{K:Act→World→Prop}{Q:Exit→Act→World→Prop}(T:TypeId)(p v:Operand)(ho:o.op= .store T p v)(hd:o.dst=none)(g off:Nat)(hp:a.eval p= .pointer (some ⟨g,off,none⟩))
  (full L:List Value) (t:TypeId) (hv:a.eval v= .agg full.toArray) (hg:w.heap[g]?=some (.cells L.toArray t (0,0))) (hl:off+full.length≤L.length) (hi:(P.info? T).map (·.size)=some full.length) (h1: ∀v∈full,v.oneCell'=true)
  (h: ∀w',w'.heap[g]?=some (.cells (splice L off full).toArray t (0,0))→Chg g (g+1) w w'→K a w'):o.wp P a w K Q:=by
 have ht:w.there g off full.toArray.size:=by
  intro j hj;have hj':j<full.length:=by simpa using hj
  refine⟨?_,?_⟩
  ·simp only[World.cell?,hg];simp;omega
  ·simp[World.frozen?,hg]
 refine wp_store_mid T p v ho g off full.toArray hp hv ht (by simpa using hi) (by rw[Array.all_eq_true_iff_forall_mem];intro x hx;exact h1 x (by simpa using hx)) ?_;rw[hd];exact h _ (jb g t full off w L hg hl) (Chg.setCells g _ off w)
structure StD (W0:World)(D:Nat)(W:World)(cs:List Value)(ts:List (Int×Bool))(q:Int)(G L:Option Nat):Prop where
 sp:W.heap[D+1]?=some (.cells (List.toArray [zb 106,zb 108,zb 111,zb 103,za 2,za (ts.length:Int),za q]) 138 (0,0))∧W.heap[D]?=some (.cells cs.toArray 72 (0,0))
 ch:Chg 0 0 W0 W
 lt:D+1<W0.heap.size
 ln:ts.length≤17
 row: ∀g,G=some g→W0.heap.size≤g∧qq W g 176 (qN (List.replicate ts.length (0,false)))
 blk: ∀b,L=some b→W0.heap.size≤b∧W.heap[b]?=some (.cells (List.toArray [zb 0,zb 0,zb 0,zb 0,za 0,za 0,za 0,zc]) 219 (0,0))
theorem StD.chg {W0 W W':World}{D:Nat}{cs:List Value}{ts:List (Int×Bool)}{q:Int}{G L:Option Nat}(h:StD W0 D W cs ts q G L)(c:Chg 0 0 W W'):StD W0 D W' cs ts q G L:=
 ⟨⟨(c.block _ (gLt h.sp.1) (by omega)).trans h.sp.1,(c.block _ (gLt h.sp.2) (by omega)).trans h.sp.2⟩,h.ch.trans c,h.lt,h.ln,fun g hg=>⟨(h.row g hg).1,(h.row g hg).2.chg c (by omega)⟩,fun b hb=>⟨(h.blk b hb).1,(c.block b (Array.getElem?_eq_some_iff.1 (h.blk b hb).2).1 (by omega)).trans (h.blk b hb).2⟩⟩
theorem StD.make {W0 W:World}{D:Nat}{cs:List Value}{ts:List (Int×Bool)}{q:Int}{L:Option Nat}(h:StD W0 D W cs ts q none L):StD W0 D (W.alloc (aa8 ts.length)) cs ts q (some W.heap.size) L:=by
 have h':=h.chg (Chg.alloc (Chg.refl 0 0 W) (aa8 ts.length));exact⟨h'.sp,h'.ch,h.lt,h.ln,fun g hg=>by cases hg;exact⟨h.ch.size,qq.new W _ _⟩,h'.blk⟩
theorem StD.alloc {W0 W:World}{D:Nat}{cs:List Value}{ts:List (Int×Bool)}{q:Int}{G:Option Nat}(h:StD W0 D W cs ts q G none):StD W0 D (W.alloc Up) cs ts q G (some W.heap.size):=by
 have h':=h.chg (Chg.alloc (Chg.refl 0 0 W) Up);exact⟨h'.sp,h'.ch,h.lt,h.ln,h'.row,fun b hb=>by cases hb;exact⟨h.ch.size,zh W _⟩⟩
structure DrD (W0:World)(D B g:Nat)(W:World)(cs:List Value)(ts:List (Int×Bool))(q:Int)(k:Nat):Prop where
 sp:W.heap[D+1]?=some (.cells (List.toArray [zb 106,zb 108,zb 111,zb 103,za 2,za (ts.length:Int),za q]) 138 (0,0))∧W.heap[D]?=some (.cells cs.toArray 72 (0,0))
 ch:Chg 0 0 W0 W
 lt:D+1<W0.heap.size
 low:W0.heap.size≤B∧W0.heap.size≤g
 row:qq W g 176 (qN (ts.take k++List.replicate (ts.length-k) (0,false)))
 blk:W.heap[B]?=some (.cells (List.toArray [zb 106,zb 108,zb 111,zb 103,za 2,za (ts.length:Int),za q,.slice (some (zd g)) ts.length ts.length]) 219 (0,0))
theorem StD.done {W0 W wy:World}{D B g:Nat}{cs:List Value}{ts:List (Int×Bool)}{q:Int}(h:StD W0 D W cs ts q (some g) (some B))(hy:wy.heap[B]?=some (.cells (List.toArray [zb 106,zb 108,zb 111,zb 103,za 2,za (ts.length:Int),za q,.slice (some (zd g)) ts.length ts.length]) 219 (0,0)))(cy:Chg B (B+1) W wy):DrD W0 D B g wy cs ts q 0:=by
 obtain⟨hb,hz⟩:=h.blk B rfl;obtain⟨hg,hr⟩:=h.row g rfl;have hne:g≠B:=by
  have hc:=hr;intro e;rw[e] at hc;exact zR hc hz (by decide) rfl
 have hlt:=h.lt;refine⟨⟨(cy.block _ (gLt h.sp.1) (by omega)).trans h.sp.1,(cy.block _ (gLt h.sp.2) (by omega)).trans h.sp.2⟩,h.ch.step cy (by omega),h.lt,⟨hb,hg⟩,?_,hy⟩;rw[List.take_zero,List.nil_append,Nat.sub_zero];exact hr.chg cy (by omega)
theorem DrD.chg {W0 W W':World}{D B g k:Nat}{cs:List Value}{ts:List (Int×Bool)}{q:Int}(h:DrD W0 D B g W cs ts q k)(c:Chg 0 0 W W'):DrD W0 D B g W' cs ts q k:=
 ⟨⟨(c.block _ (gLt h.sp.1) (by omega)).trans h.sp.1,(c.block _ (gLt h.sp.2) (by omega)).trans h.sp.2⟩,h.ch.trans c,h.lt,h.low,h.row.chg c (by omega),(c.block _ (gLt h.blk) (by omega)).trans h.blk⟩
theorem DrD.put {W0 W W':World}{D B g k:Nat}{cs:List Value}{ts:List (Int×Bool)}{q:Int}(h:DrD W0 D B g W cs ts q k)(hk:k<ts.length)(h':W'.heap[g]?=some (.cells (splice (qN (ts.take k++List.replicate (ts.length-k) (0,false))) (k*2) [za (ts.getD k (0,false)).1,.bool (ts.getD k (0,false)).2]).toArray 176 (0,0)))(c:Chg g (g+1) W W'):DrD W0 D B g W' cs ts q (k+1):=by
 have hne:g≠B:=by
  have hc:=h.row;intro e;rw[e] at hc;exact zR hc h.blk (by decide) rfl
 have hlo:=h.low;have hlt:=h.lt;refine⟨⟨(c.block _ (gLt h.sp.1) (by omega)).trans h.sp.1,(c.block _ (gLt h.sp.2) (by omega)).trans h.sp.2⟩,h.ch.step c (by omega),h.lt,h.low,?_,(c.block _ (gLt h.blk) (by omega)).trans h.blk⟩;have hl:(ts.take k).length=k:=by rw[List.length_take];omega
 have e1:ts.length-k=(ts.length-(k+1))+1:=by omega
 have hx:ts.getD k (0,false)=ts[k]:=by simp[List.getD_eq_getElem?_getD,hk]
 have e:splice (qN (ts.take k++List.replicate (ts.length-k) (0,false))) (k*2) [za (ts.getD k (0,false)).1,.bool (ts.getD k (0,false)).2]=qN (ts.take (k+1)++List.replicate (ts.length-(k+1)) (0,false)):=by
  have hL:(qN (ts.take k++List.replicate (ts.length-k) (0,false))).length=ts.length*2:=by rw[ZB,List.length_append,hl,List.length_replicate];congr 1;omega
  rw[List.take_succ_eq_append_getElem hk,hx];have:=ED (ts.take k) (ts.length-(k+1)) k hl ts[k].1 ts[k].2;rw[←e1] at this;rw[show ts[k]=(ts[k].1,ts[k].2) from rfl,←this];rw[←Qb _ _ _ _ (by rw[hL];omega),←Qb _ _ _ _ (by rw[List.length_set,hL];omega)];unfold splice;simp
 rw[e] at h';exact h'
theorem DrD.done {W0 W:World}{D B g:Nat}{cs:List Value}{ts:List (Int×Bool)}{q:Int}(h:DrD W0 D B g W cs ts q ts.length):qq W g 176 (qN ts):=by
 have:=h.row;rw[List.take_length,Nat.sub_self,List.replicate_zero,List.append_nil] at this;exact this
theorem abi {W:World}{g:Nat}{ts:List (Int×Bool)}(h:qq W g 176 (qN ts)): ∀i,i<ts.length→W.cell? ⟨g,0+i*2,none⟩=some (za (ts.getD i (0,false)).1)∧W.cell? ⟨g,0+i*2+1,none⟩=some (.bool (ts.getD i (0,false)).2):=fun i hi=>by
 obtain⟨e1,e2⟩:=Xv ts i hi
 rw[Nat.zero_add]
 exact⟨h.cell _ e1,h.cell _ e2⟩
theorem Xs (w:World){lo hi:Nat}{a:Value}{xs:List Int}{tL tM tK:TypeId}{vL vM vK:Value}(ts:List (Int×Bool))(q:Int)(h1:zr w lo hi .u8 a xs)(hB:Byt xs)(hG:jl w tL tM tK vL vM vK)(hx:xs.length=64)(hm:xs.take 4=mg)(hk:xs.getD 4 0=2)(hh:hd7 xs= #[zb 106,zb 108,zb 111,zb 103,za 2,za (ts.length:Int),za q])(hget: ∀i,i<ts.length→Zn ((xs.drop (12+i*3)).take 2)=(ts.getD i (0,false)).1∧xs.getD (12+i*3+2) 0=if(ts.getD i (0,false)).2 then 1 else 0)
  (he:xs=qc (zm 2 (ts.length:Int) q++zE ts)) (hq:1≤q∧q≤4294967295) (hr:K7 (ts.map Prod.fst)) (hl:1≤ts.length∧ts.length≤17) (hi2:(zk (ts.length:Int) 2).length=2) (hq4:(zk q 4).length=4):
  Calls Tryz.prog 153 #[a] w fun e w'=> ∃g,e= .returned (.tuple #[.agg #[zb 106,zb 108,zb 111,zb 103,za 2,za (ts.length:Int),za q,.slice (some (zd g)) ts.length ts.length],.nilIface])∧w.heap.size≤g∧qq w' g 176 (qN ts)∧Chg 0 0 w w':=by
 have CA:Chg 0 0 w (w.alloc Up):=Chg.alloc (Chg.refl 0 0 w) _;have hn0:=zh w Up;have hN:=Z8 (w.alloc Up) 2 (h1.chg CA (by omega)) hB (hG.chg CA (by omega)) hx hm hk (by omega);obtain⟨ao,cap,rfl,_⟩:=h1;obtain⟨cs,hcs⟩: ∃cs,cs=xs.map (Value.int .u8):=⟨_,rfl⟩;have L1:cs.length=64:=by rw[hcs];simpa using hx
 have L2: ∀v∈cs,v.oneCell'=true:=by rw[hcs];exact ints_oneCell _ _
 have hi28:(Tryz.prog.info? 72).map (·.size)=some cs.length:=by rw[L1];kernel_rfl
 have HL1:Hid _:=L1;have HL2:Hid _:=L2;rw[←hcs] at hN;rw[hh] at hN;have hO:=fun W=>Zr W 106 108 111 103 2 ts.length q 1 17 (by omega) (by omega) (by omega) (by omega);have HGet:Hid _:=hget;have HRi:Hid _:=hr;have HE:Hid _:=he;have HX:Hid _:=hx;have HBy:Hid (Byt xs):=hB;have Hcs:Hid _:=hcs;clear hget hr he hx hB hm hk hh hcs hG L1 L2;go_enter Tryz.func153,Tryz.ntmps153;go_wp2_with fail;generalize w.alloc Up=wa at*
 refine hN.mono ?_;rintro e w2 ⟨rfl,c2⟩;have s2:=c2.size;have hwa:=(gLt hn0);have HZ:Hid _:=(c2.block _ hwa (by omega)).trans hn0;have HA:Hid _:=CA.trans c2;clear hN c2 CA hn0;obtain⟨y1,y2,y3⟩:=zN w2 (.cells Z64.toArray 72) (.cells z7.toArray 138);have hA2:Chg 0 0 w2 ((w2.alloc (.cells Z64.toArray 72)).alloc (.cells z7.toArray 138)):=(Chg.alloc (Chg.refl 0 0 w2) _).alloc _;have HY2:Hid _:=y2;have HY3:Hid _:=y3
 have HA2:Hid _:=hA2;clear y1 y2 y3 hA2;go_upto_region 2 with(first
  |(refine wpList_store_row rfl 72 (.tmp 4) (.tmp 14) rfl rfl w2.heap.size rfl cs Z64 72 rfl (by simp only[zM];exact HY2.out) (by rw[zD];exact HL1.out) hi28 HL2.out ?_;intro w3 hb3 hc3)
  |(refine wpList_store_row rfl 138 (.tmp 5) (.tmp 15) rfl rfl (w2.heap.size+1) rfl [zb 106,zb 108,zb 111,zb 103,za 2,za (ts.length:Int),za q] z7 138 rfl (by simp only[zM] at hc3;exact(hc3.block (w2.heap.size+1) (gLt HY3.out) (by omega)).trans HY3.out) rfl (by kernel_rfl) (by simp[Value.oneCell']) ?_;intro w4' hb4 hc4))
 have s3:=hc3.size;have s4':=hc4.size;have hz4':=(gLt hb4);have C4:Chg 0 0 w2 w4':=by
  simp only[zM] at hc3;exact(HA2.out.step hc3 (by omega)).step hc4 (by omega)
 have HH':Hid (_∧_):=⟨hb4,(hc4.block _ (gLt hb3) (by omega)).trans hb3⟩;have HR7:Hid _:=zj hb4;have HCw':Hid _:=HA.out.trans C4;have HZ':Hid _:=(C4.block _ (by omega) (by omega)).trans HZ.out;clear hb3 hb4 hc3 hc4 C4 HA2 HY2 HY3;go_upto_region 7 with(first
  |(refine wpList_load_mid rfl 138 (.tmp 5) rfl (w2.heap.size+1) 0 rfl [zb 106,zb 108,zb 111,zb 103,za 2,za (ts.length:Int),za q] _ HR7.out Tryz.underlying138 rfl (by kernel_rfl) ?_)
  |(go_at_call 162;refine(hO _).mono ?_;rintro e w4 ⟨rfl,c4⟩))
 have s4:=c4.size;have HH:Hid (_∧_):=⟨(c4.block _ (gLt HH'.out.1) (by omega)).trans HH'.out.1,(c4.block _ (gLt HH'.out.2) (by omega)).trans HH'.out.2⟩;have HCw:Hid _:=HCw'.out.trans c4;have HZ4:Hid _:=(c4.block _ (by omega) (by omega)).trans HZ'.out;have hz4:w2.heap.size+1<w4.heap.size:=by omega
 clear c4 HH' HCw' HZ' HR7 hO;go_cut [8] (fun s8 wx=> ∃B8 g,s8= .pointer (some (zd B8))∧DrD w4 w2.heap.size B8 g wx cs ts q 0)
 case first=>
  have hSt:StD w4 w2.heap.size w4.drew cs ts q none none:=⟨HH.out,Chg.drew (Chg.refl 0 0 w4),hz4,hl.2,fun _ e=>(by cases e),fun _ e=>(by cases e)⟩;refine zp (fun w':World=>w'.heap[w2.heap.size+1]?=some (.cells (List.toArray [zb 106,zb 108,zb 111,zb 103,za 2,za (ts.length:Int),za q]) 138 (0,0))∧w'.heap[w2.heap.size]?=some (.cells cs.toArray 72 (0,0))) (by kernel_rfl) ?_;generalize w4.drew=w5 at*;refine zv 0 (.agg (List.toArray [zb 106,zb 108,zb 111,zb 103,za 2,za (ts.length:Int),za q])) rfl (by kernel_rfl) (by kernel_rfl) (by kernel_rfl) (fun _ _ _ h=>h) (yieldsIf_load_mid (by kernel_rfl) 138 (.tmp 5) rfl (w2.heap.size+1) 0 rfl [zb 106,zb 108,zb 111,zb 103,za 2,za (ts.length:Int),za q] _ (fun w' hw'=>zj hw'.1) Tryz.underlying138 rfl (by kernel_rfl)) hSt.sp ?_
  go_simp;refine zv 1 (.agg (List.toArray [zb 106,zb 108,zb 111,zb 103,za 2,za (ts.length:Int),za q])) rfl (by kernel_rfl) (by kernel_rfl) (by kernel_rfl) (fun _ _ _ h=>h) (yieldsIf_load_mid (by kernel_rfl) 138 (.tmp 5) rfl (w2.heap.size+1) 0 rfl [zb 106,zb 108,zb 111,zb 103,za 2,za (ts.length:Int),za q] _ (fun w' hw'=>zj hw'.1) Tryz.underlying138 rfl (by kernel_rfl)) hSt.sp ?_;go_simp;refine Zy 2 5 rfl rfl rfl rfl (by kernel_rfl) ?_ ?_
  ·refine zl 107 #[.agg (List.toArray [zb 106,zb 108,zb 111,zb 103,za 2,za (ts.length:Int),za q])] (by first|kernel_rfl|go_simp) (jZ w5 106 108 111 103 2 ts.length q) ?_;rintro e v1 ⟨rfl,hk⟩;replace hSt:=hSt.chg hk;clear hk;refine⟨_,rfl,hSt.sp,?_⟩;go_simp;refine Zy 3 5 rfl rfl rfl rfl (by kernel_rfl) ?_ ?_
   ·have hmk:=XS ts.length (by omega);go_simp;clear hmk;replace hSt:=hSt.make;refine⟨hSt.sp,?_⟩;generalize v1.alloc (aa8 ts.length)=v2 at*;refine hTk 4 (.agg (List.toArray [zb 106,zb 108,zb 111,zb 103,za 2,za (ts.length:Int),za q,.slice (some (zd v1.heap.size)) ts.length ts.length])) rfl (fun w' hw'=>by go_simp) hSt.sp ?_;go_simp;refine zg 5 rfl rfl (by kernel_rfl) ?_;go_simp;replace hSt:=hSt.alloc
    refine⟨hSt.sp,?_⟩;generalize v2.alloc Up=v3 at*;refine zg 6 rfl rfl (by kernel_rfl) ?_;refine wp_store_row 219 (.tmp 8) (.tmp 31) rfl rfl (v2.heap.size) rfl [zb 106,zb 108,zb 111,zb 103,za 2,za (ts.length:Int),za q,.slice (some (zd v1.heap.size)) ts.length ts.length] [zb 0,zb 0,zb 0,zb 0,za 0,za 0,za 0,zc] 219 rfl (hSt.blk _ rfl).2 rfl (by kernel_rfl) (by simp[Value.oneCell']) ?_;intro wy hy cy
    have HF:Hid _:=hSt.done hy cy;have HS9:Hid _:=HF.out.sp;clear hy cy hSt;refine⟨HS9.out,zt (by kernel_rfl) (NoPanic.normal ?_)⟩;go_wp2;go_meet;exact⟨_,_,rfl,HF.out⟩
   ·go_simp;replace hSt:=hSt.alloc;refine⟨hSt.sp,?_⟩;generalize v1.alloc Up=v4 at*;refine zg 3 rfl rfl (by kernel_rfl) ?_;have hmk:=XS ts.length (by omega);go_simp;clear hmk;replace hSt:=hSt.make;refine⟨hSt.sp,?_⟩;generalize v4.alloc (aa8 ts.length)=v5 at*;refine hTk 4 (.agg (List.toArray [zb 106,zb 108,zb 111,zb 103,za 2,za (ts.length:Int),za q,.slice (some (zd v4.heap.size)) ts.length ts.length])) rfl (fun w' hw'=>by go_simp) hSt.sp ?_
    go_simp;refine zg 6 rfl rfl (by kernel_rfl) ?_;refine wp_store_row 219 (.tmp 8) (.tmp 31) rfl rfl (v1.heap.size) rfl [zb 106,zb 108,zb 111,zb 103,za 2,za (ts.length:Int),za q,.slice (some (zd v4.heap.size)) ts.length ts.length] [zb 0,zb 0,zb 0,zb 0,za 0,za 0,za 0,zc] 219 rfl (hSt.blk _ rfl).2 rfl (by kernel_rfl) (by simp[Value.oneCell']) ?_;intro wy hy cy;have HF:Hid _:=hSt.done hy cy;have HS9:Hid _:=HF.out.sp
    clear hy cy hSt;refine⟨HS9.out,zt (by kernel_rfl) (NoPanic.normal ?_)⟩;go_wp2;go_meet;exact⟨_,_,rfl,HF.out⟩
  ·go_simp;replace hSt:=hSt.alloc;refine⟨hSt.sp,?_⟩;generalize w5.alloc Up=v6 at*;refine zg 2 rfl rfl (by kernel_rfl) ?_;refine zl 107 #[.agg (List.toArray [zb 106,zb 108,zb 111,zb 103,za 2,za (ts.length:Int),za q])] (by first|kernel_rfl|go_simp) (jZ v6 106 108 111 103 2 ts.length q) ?_;rintro e v7 ⟨rfl,hk⟩;replace hSt:=hSt.chg hk;clear hk;refine⟨_,rfl,hSt.sp,?_⟩;go_simp;refine zg 3 rfl rfl (by kernel_rfl) ?_
   have hmk:=XS ts.length (by omega);go_simp;clear hmk;replace hSt:=hSt.make;refine⟨hSt.sp,?_⟩;generalize v7.alloc (aa8 ts.length)=v8 at*;refine hTk 4 (.agg (List.toArray [zb 106,zb 108,zb 111,zb 103,za 2,za (ts.length:Int),za q,.slice (some (zd v7.heap.size)) ts.length ts.length])) rfl (fun w' hw'=>by go_simp) hSt.sp ?_;go_simp;refine zg 6 rfl rfl (by kernel_rfl) ?_;refine wp_store_row 219 (.tmp 8) (.tmp 31) rfl rfl (w5.heap.size) rfl [zb 106,zb 108,zb 111,zb 103,za 2,za (ts.length:Int),za q,.slice (some (zd v7.heap.size)) ts.length ts.length] [zb 0,zb 0,zb 0,zb 0,za 0,za 0,za 0,zc] 219 rfl (hSt.blk _ rfl).2 rfl (by kernel_rfl) (by simp[Value.oneCell']) ?_
   intro wy hy cy;have HF:Hid _:=hSt.done hy cy;have HS9:Hid _:=HF.out.sp;clear hy cy hSt;refine⟨HS9.out,zt (by kernel_rfl) (NoPanic.normal ?_)⟩;go_wp2;go_meet;exact⟨_,_,rfl,HF.out⟩
 case rest=>
  obtain⟨B8,g,rfl,hD⟩:=hcut;generalize wc=w9 at*;have hge: ∀(W:World) (k:Nat),k<ts.length→W.heap[w2.heap.size]?=some (.cells cs.toArray 72 (0,0))→Calls Tryz.prog 128 #[.slice (some ⟨w2.heap.size,12+3*k,none⟩) 2 (64-(12+3*k))] W fun e w'=>e= .returned (za (ts.getD k (0,false)).1)∧Chg 0 0 W w':=fun W k hk hW=>by
   have hl2:((xs.drop (12+3*k)).take 2).length=2:=by rw[List.length_take,List.length_drop,HX.out];omega
   have hv:zr W w2.heap.size (w2.heap.size+1) .u8 (.slice (some ⟨w2.heap.size,12+3*k,none⟩) 2 (64-(12+3*k))) ((xs.drop (12+3*k)).take 2):=by
    refine⟨_,_,by rw[hl2],by omega,⟨by omega,by simp⟩,Or.inr ⟨w2.heap.size,12+3*k,rfl,Nat.le_refl _,Nat.lt_succ_self _,fun i hi=>?_⟩⟩;rw[hl2] at hi;simp only[World.cell?,hW];rw[Hcs.out];have hx:=HX.out;simp[List.getD_eq_getElem?_getD,hi,hx,show 12+3*k+i<64 by omega]
   have:=jq W ((HBy.out.drop (12+3*k)).take 2) hv;have e3:=(HGet.out k hk).1;rw[show 12+k*3=12+3*k by omega] at e3;rw[e3] at this;exact this.mono fun e w' h=>⟨h.1,h.2.chg 0 0⟩
  have HEC:Hid (∀(W:World) (k:Nat),k<ts.length→W.heap[w2.heap.size]?=some (.cells cs.toArray 72 (0,0))→W.cell? ⟨w2.heap.size,12+3*k+2,none⟩=some (zb (if(ts.getD k (0,false)).2 then 1 else 0))):=fun W k hk hW=>by
   have e3:=(HGet.out k hk).2;rw[show 12+k*3=12+3*k by omega] at e3;rw[←e3];simp only[World.cell?,hW];rw[Hcs.out];have hx:=HX.out;simp[List.getD_eq_getElem?_getD,hx,show 12+3*k+2<64 by omega]
  have HCf:Hid (∀W,DrD w4 w2.heap.size B8 g W cs ts q ts.length→Calls Tryz.prog 129 #[.iface 219 (.agg (List.toArray [zb 106,zb 108,zb 111,zb 103,za 2,za (ts.length:Int),za q,.slice (some (zd g)) ts.length ts.length])),.agg cs.toArray] W fun e w'=>e= .returned .nilIface∧Chg 0 0 W w'):=fun W h=>by
   have:=U0 (cap:=ts.length) W q (abi h.done) HRi.out hl hq hi2 hq4 xs HE.out HX.out HBy.out;rw[←Hcs.out] at this;exact this
  have HGE:Hid _:=hge;clear hge HGet HE HX HBy Hcs HRi;obtain⟨k0,k1,k2,k3,k4,k5,k6,k7⟩:=eight hD.blk;go_wp2_with fail;clear k0 k1 k2 k3 k4 k5 k6 k7;go_loopw [35,9,10] (fun x _ _ wr=> ∃k:Nat,k≤ts.length∧x=za k∧DrD w4 w2.heap.size B8 g wr cs ts q k) (fun x _ _ _=>ts.length-(RowKit.intOf x).toNat)
  case atStart=>exact⟨0,Nat.zero_le _,rfl,hD⟩
  case round=>
   clear hD;obtain⟨k,hk,rfl,hD⟩:=hrel;by_cases hlt:k<ts.length
   ·have hk':(k:Int)<(ts.length:Int):=by omega
    have q1:(0:Int)≤12+(k:Int)*3:=by omega
    have q2:12+(k:Int)*3≤64:=by omega
    have q3:(12+(k:Int)*3).toNat=12+3*k:=by omega
    have q5: ¬(64:Nat)=12+3*k:=by omega
    have q4:IntKind.i64.wrap ((k:Int)*3)=(k:Int)*3:=by rw[IntKind.wrap_i64];omega
    have q6:IntKind.i64.wrap (12+(k:Int)*3)=12+(k:Int)*3:=by rw[IntKind.wrap_i64];omega
    go_upto_region 12 with fail;have HS:Hid ((fun w':World=>w'.heap[B8]?=some (.cells (List.toArray [zb 106,zb 108,zb 111,zb 103,za 2,za (ts.length:Int),za q,.slice (some (zd g)) ts.length ts.length]) 219 (0,0))∧w'.heap[w2.heap.size]?=some (.cells cs.toArray 72 (0,0))) wr.drew):=⟨hD.blk,hD.sp.2⟩;have hDd:=hD.chg (Chg.drew (Chg.refl 0 0 wr));obtain⟨z,Hz⟩: ∃z,Hid (z=(ts.getD k (0,false)).1):=⟨_,rfl⟩
    obtain⟨ee,He⟩: ∃ee,Hid (ee=(ts.getD k (0,false)).2):=⟨_,rfl⟩;have hg7:=HGE.out wr.drew k hlt hD.sp.2;have hec:=fun W=>HEC.out W k hlt;rw[←He.out] at hec;rw[←Hz.out] at hg7;have e4:(2:Int)<((64-(12+3*k):Nat):Int):=by omega
    have e5:(2:Int)≤((64-(12+3*k):Nat):Int):=by omega
    have e6:((if ee then 1 else 0:Int)==1)=ee:=by cases ee<;>rfl
    have e7: ¬(64-(12+3*k)=0):=by omega
    have e8:(2:Nat)≤64-(12+3*k):=by omega
    refine zp (fun w':World=>w'.heap[B8]?=some (.cells (List.toArray [zb 106,zb 108,zb 111,zb 103,za 2,za (ts.length:Int),za q,.slice (some (zd g)) ts.length ts.length]) 219 (0,0))∧w'.heap[w2.heap.size]?=some (.cells cs.toArray 72 (0,0))) (by kernel_rfl) ?_;clear hD;generalize wr.drew=wd at*;refine hTk 0 (.pointer (some ⟨B8,7,none⟩)) rfl (fun w' hw'=>by go_simp) HS.out ?_;go_simp;refine hTk 1 (.slice (some (zd g)) ts.length ts.length) rfl (fun w' hw'=>by obtain⟨k0,k1,k2,k3,k4,k5,k6,k7⟩:=eight hw'.1;go_simp) HS.out ?_
    go_simp;refine hTk 2 (za k) rfl (fun w' hw'=>by go_simp) HS.out ?_;go_simp;refine hTk 3 (.slice (some ⟨w2.heap.size,12+3*k,none⟩) (64-(12+3*k)) (64-(12+3*k))) rfl (fun w' hw'=>by go_simp) HS.out ?_;go_simp;refine hTk 4 (.slice (some ⟨w2.heap.size,12+3*k,none⟩) 2 (64-(12+3*k))) rfl (fun w' hw'=>by go_simp) HS.out ?_;go_simp;refine hTk 6 (.slice (some ⟨w2.heap.size,12+3*k,none⟩) (64-(12+3*k)) (64-(12+3*k))) rfl (fun w' hw'=>by go_simp) HS.out ?_
    go_simp;refine hTk 7 (.pointer (some ⟨w2.heap.size,12+3*k+2,none⟩)) rfl (fun w' hw'=>by go_simp) HS.out ?_;go_simp;refine hTk 8 (zb (if ee then 1 else 0)) rfl (fun w' hw'=>by have:=hec w' hw'.2;go_simp) HS.out ?_;go_simp;refine hTk 9 (.bool ee) rfl (fun w' hw'=>by cases ee<;>go_simp) HS.out ?_;go_simp;refine zg 5 rfl rfl (by kernel_rfl) ?_;refine zl 128 #[.slice (some ⟨w2.heap.size,12+3*k,none⟩) 2 (64-(12+3*k))] (by first|kernel_rfl|go_simp) hg7 ?_
    rintro e wn ⟨rfl,cn⟩;have hDn:=hDd.chg cn;have HSn:Hid (_∧_):=⟨hDn.blk,hDn.sp.2⟩;refine⟨_,rfl,HSn.out,?_⟩;clear cn hDd HS;go_simp;refine hTk 10 (.agg (List.toArray [za z,.bool ee])) rfl (fun w' hw'=>by go_simp) HSn.out ?_;go_simp;refine hTk 11 (.pointer (some ⟨g,k*2,none⟩)) rfl (fun w' hw'=>by go_simp) HSn.out ?_;go_simp;refine zg 12 rfl rfl (by kernel_rfl) ?_;refine EL 176 (.tmp 53) (.tmp 52) rfl rfl g (k*2) rfl [za z,.bool ee] (qN (ts.take k++List.replicate (ts.length-k) (0,false))) 176 rfl hDn.row (by rw[ZB,List.length_append,List.length_take,List.length_replicate];simp;omega) (by kernel_rfl) (by simp[Value.oneCell']) ?_
    intro wy hy cy;rw[Hz.out,He.out] at hy;have hDp:=hDn.put hlt hy cy;have HDp:Hid _:=hDp;have HSp:Hid (_∧_):=⟨hDp.blk,hDp.sp.2⟩;clear hDn hDp HSn hy cy;refine⟨HSp.out,zt (by kernel_rfl) (NoPanic.normal ?_)⟩;go_wp2;go_roundw
    case rel=>exact⟨k+1,by omega,by go_num,HDp.out⟩
    case measure=>simp[RowKit.intOf];omega
   ·obtain rfl:k=ts.length:=by omega
    have hk': ¬((ts.length:Int)<(ts.length:Int)):=by omega
    have s9:=hD.ch.size;have hlt0:=hD.lt;have HS:Hid ((fun w':World=>w'.heap[B8]?=some (.cells (List.toArray [zb 106,zb 108,zb 111,zb 103,za 2,za (ts.length:Int),za q,.slice (some (zd g)) ts.length ts.length]) 219 (0,0))∧w'.heap[w2.heap.size]?=some (.cells cs.toArray 72 (0,0))) wr.drew):=⟨hD.blk,hD.sp.2⟩;have hDd:=hD.chg (Chg.drew (Chg.refl 0 0 wr));have HZ9:wr.drew.heap[w.heap.size]?=some (.cells (List.toArray [zb 0,zb 0,zb 0,zb 0,za 0,za 0,za 0,zc]) 219 (0,0)):=(hD.ch.block _ (by omega) (by omega)).trans HZ4.out
    have HC9:Hid _:=(HCw.out.trans hD.ch).drew;clear hD;go_upto_region 14 with fail;refine zp (fun w':World=>w'.heap[B8]?=some (.cells (List.toArray [zb 106,zb 108,zb 111,zb 103,za 2,za (ts.length:Int),za q,.slice (some (zd g)) ts.length ts.length]) 219 (0,0))∧w'.heap[w2.heap.size]?=some (.cells cs.toArray 72 (0,0))) (by kernel_rfl) ?_;generalize wr.drew=wd at*;refine zv 0 (.agg (List.toArray [zb 106,zb 108,zb 111,zb 103,za 2,za (ts.length:Int),za q,.slice (some (zd g)) ts.length ts.length])) rfl (by kernel_rfl) (by kernel_rfl) (by kernel_rfl) (fun _ _ _ h=>h) (yieldsIf_load_mid (by kernel_rfl) 219 (.tmp 8) rfl B8 0 rfl [zb 106,zb 108,zb 111,zb 103,za 2,za (ts.length:Int),za q,.slice (some (zd g)) ts.length ts.length] _ (fun w' hw'=>zj hw'.1) Tryz.underlying219 rfl (by kernel_rfl)) HS.out ?_
    go_simp;refine zv 1 (.agg (List.toArray [zb 106,zb 108,zb 111,zb 103,za 2,za (ts.length:Int),za q,.slice (some (zd g)) ts.length ts.length])) rfl (by kernel_rfl) (by kernel_rfl) (by kernel_rfl) (fun _ _ _ h=>h) (yieldsIf_load_mid (by kernel_rfl) 219 (.tmp 8) rfl B8 0 rfl [zb 106,zb 108,zb 111,zb 103,za 2,za (ts.length:Int),za q,.slice (some (zd g)) ts.length ts.length] _ (fun w' hw'=>zj hw'.1) Tryz.underlying219 rfl (by kernel_rfl)) HS.out ?_
    go_simp;refine hTk 2 (.iface 219 (.agg (List.toArray [zb 106,zb 108,zb 111,zb 103,za 2,za (ts.length:Int),za q,.slice (some (zd g)) ts.length ts.length]))) rfl (fun w' hw'=>by go_simp) HS.out ?_;go_simp;refine zv 3 (.agg cs.toArray) rfl (by kernel_rfl) (by kernel_rfl) (by kernel_rfl) (fun _ _ _ h=>h) (yieldsIf_load_mid (by kernel_rfl) 72 (.tmp 4) rfl w2.heap.size 0 rfl cs _ (fun w' hw'=>zj hw'.2) Tryz.underlying72 rfl hi28) HS.out ?_
    go_simp;refine zg 4 rfl rfl (by kernel_rfl) ?_;refine zl 129 #[.iface 219 (.agg (List.toArray [zb 106,zb 108,zb 111,zb 103,za 2,za (ts.length:Int),za q,.slice (some (zd g)) ts.length ts.length])),.agg cs.toArray] (by first|kernel_rfl|go_simp) (HCf.out wd hDd) ?_;rintro e we ⟨rfl,ce⟩;have se:=ce.size;have hDe:=hDd.chg ce;have HSe:Hid (_∧_):=⟨hDe.blk,hDe.sp.2⟩;have hze:=(ce.block _ (gLt HZ9) (by omega)).trans HZ9
    refine⟨_,rfl,HSe.out,?_⟩;go_simp;refine zg 5 rfl rfl (by kernel_rfl) ?_;refine wp_store_row 219 (.tmp 2) (.tmp 55) rfl rfl w.heap.size rfl [zb 106,zb 108,zb 111,zb 103,za 2,za (ts.length:Int),za q,.slice (some (zd g)) ts.length ts.length] [zb 0,zb 0,zb 0,zb 0,za 0,za 0,za 0,zc] 219 rfl hze rfl (by kernel_rfl) (by simp[Value.oneCell']) ?_;intro wf hbf hcf;have hlow:=hDe.low;have HSf:Hid (_∧_):=⟨(hcf.block _ (gLt HSe.out.1) (by omega)).trans HSe.out.1,(hcf.block _ (gLt HSe.out.2) (by omega)).trans HSe.out.2⟩
    have Hbf:Hid _:=hbf;have HCz:Hid (Chg 0 0 w wf):=(HC9.out.trans ce).step hcf (by omega);have HRo:Hid (w.heap.size≤g∧qq wf g 176 (qN ts)):=⟨by omega,hDe.done.chg hcf (by omega)⟩;refine⟨HSf.out,?_⟩;clear hbf hcf ce hze;go_simp;refine zg 6 rfl rfl (by kernel_rfl) ?_;refine qA (v:= .nilIface) (w':=wf) (by first|kernel_rfl|go_simp) ⟨HSf.out,?_⟩;go_simp;refine zt (by kernel_rfl) (NoPanic.normal ?_);go_wp2
    have hl1:(loadVar 219 (zd w.heap.size)).run Tryz.prog wf= .ok (.agg (List.toArray [zb 106,zb 108,zb 111,zb 103,za 2,za (ts.length:Int),za q,.slice (some (zd g)) ts.length ts.length])) wf:=run_loadVar_mid _ _ _ _ [zb 106,zb 108,zb 111,zb 103,za 2,za (ts.length:Int),za q,.slice (some (zd g)) ts.length ts.length] _ (zj Hbf.out) Tryz.underlying219 rfl (by kernel_rfl);exact bodyPost_ret (v:= .tuple #[.agg (List.toArray [zb 106,zb 108,zb 111,zb 103,za 2,za (ts.length:Int),za q,.slice (some (zd g)) ts.length ts.length]),.nilIface]) (jB Tryz.results153 rfl rfl hl1) rfl ⟨g,rfl,HRo.out.1,HRo.out.2,HCz.out⟩
end Go.Proofs.YtacjklochmelfaaGreatDoor
