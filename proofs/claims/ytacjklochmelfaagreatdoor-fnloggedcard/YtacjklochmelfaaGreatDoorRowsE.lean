import Derived.Test.YtacjklochmelfaaGreatDoorJReadC
import Derived.Test.YtacjklochmelfaaGreatDoorRows
import Derived.Test.YtacjklochmelfaaGreatDoorCells2
namespace Go.Proofs.YtacjklochmelfaaGreatDoor
open Go.RowKit
set_option maxRecDepth 100000
set_option maxHeartbeats 16000000
theorem Q0 (w:World)(c q:Int)(xs:List Int)(b off cap:Nat)(hi:c≤9223372036854775807)(hq:q≤9223372036854775807)(hi2:(zk c 2).length=2)(hq4:(zk q 4).length=4)(hl:xs.length≤26)
  (hg: ∀x∈xs,0≤x∧x<2048) (h1: ∀i,i<xs.length→w.cell? ⟨b,off+i,none⟩=some (za (xs.getD i 0))):
  Calls Tryz.prog 97 #[.agg #[zb 106,zb 108,zb 111,zb 103,za 3,za c,za q,.slice (some ⟨b,off,none⟩) xs.length cap]] w fun e w'=>e= .returned (.agg ((qc (zm 3 c q++z8 xs)).map (Value.int .u8)).toArray)∧Chg 0 0 w w':=by
 have HG:Hid (∀x∈xs,0≤x∧x<2048):=hg;have H1:Hid (∀i,i<xs.length→w.cell? ⟨b,off+i,none⟩=some (za (xs.getD i 0))):=h1;clear hg h1;obtain⟨lv,hlv⟩: ∃lv,lv=Value.slice (some ⟨b,off,none⟩) xs.length cap:=⟨_,rfl⟩;have Hlv:Hid (lv=Value.slice (some ⟨b,off,none⟩) xs.length cap):=hlv;rw[←hlv];clear hlv;have hN:=fun w=>Z6 w 106 108 111 103 3 c q (by omega) (by omega) hi hq hi2 hq4;have Hi2:Hid ((zk c 2).length=2):=hi2
 have Hq4:Hid ((zk q 4).length=4):=hq4;rw[XE hi2 hq4] at hN;have HY:Hid ((zm 3 c q).length=12):=qX hi2 hq4;obtain⟨bs,Hbs⟩: ∃bs,Hid (bs=ja (zm 3 c q)):=⟨_,rfl⟩;have Hbl:Hid (bs.length=64):=by show _=_;rw[Hbs.out];exact qQ (by rw[HY.out];omega)
 have HV:Hid (∀v∈bs,v.oneCell'=true):=by show∀v∈bs,v.oneCell'=true;rw[Hbs.out];exact Qm _
 rw[←Hbs.out] at hN;have hib:(Tryz.prog.info? 72).map (·.size)=some bs.length:=by rw[Hbl.out];kernel_rfl
 obtain⟨z1,z2,z3⟩:=zN w (jO 191 3 c q lv) (.cells Z64.toArray 72);have hA:Chg 0 0 w ((w.alloc (jO 191 3 c q lv)).alloc (.cells Z64.toArray 72)):=(Chg.alloc (Chg.refl 0 0 w) _).alloc _;have HZ:Hid (_∧_∧_∧_):=⟨z1,z2,z3,hA⟩;clear z1 z2 z3 hA hi2 hq4;go_enter Tryz.func97,Tryz.ntmps97;go_wp2_with fail;simp only[zM];generalize ((w.alloc (jO 191 3 c q lv)).alloc (.cells Z64.toArray 72))=wa at*;refine(hN wa).mono ?_
 rintro e w2 ⟨rfl,hc2⟩;have HE:Hid (Enc w (w2.alloc (.cells Z64.toArray 72)) w2.heap.size (jO 191 3 c q lv) Z64):=by
  obtain⟨z1,z2,z3,hA⟩:=HZ.out;have s2:=hc2.size;have hc3:Chg 0 0 wa (w2.alloc (.cells Z64.toArray 72)):=hc2.alloc _;exact⟨(hc3.block _ (by omega) (by omega)).trans z2,(hc3.block _ (by omega) (by omega)).trans z3,zh _ _,by omega,hA.trans hc3⟩
 clear hN hc2 HZ;have hg:=HE.out.b2;rw[←zM] at hg;have Hg:Hid (_=_):=hg;clear hg;go_upto_region 2 with(first
  |(refine wpList_store_row rfl 72 (.tmp 3) (.tmp 8) rfl rfl w2.heap.size rfl bs _ 72 rfl Hg.out (by rw[Hbl.out];rfl) hib HV.out ?_;intro w3 hb3 hc3))
 simp only[zM] at hc3;clear Hg;have HE3:Hid _:=HE.out.put hc3 hb3;have hlo:=HE3.out.lo;generalize w2.heap.size=N at*;clear hb3 hc3 HE;rw[Hbs.out] at HE3;clear Hbs Hbl HV hib;have k7:w3.cell? ⟨w.heap.size,7,none⟩=some (.slice (some ⟨b,off,none⟩) xs.length cap):=by
  have hb:=HE3.out.b0;simp[World.cell?,hb,Hlv.out]
 go_wp2;go_loopw [12] (fun x wr=> ∃k:Nat,k≤xs.length∧x=za k∧Enc w wr N (jO 191 3 c q lv) (ja (zm 3 c q++z8 (xs.take k)))) (fun x _=>xs.length-(intOf x).toNat)
 case atStart=>exact⟨0,Nat.zero_le _,rfl,by rw[List.take_zero];show Enc _ _ _ _ (ja (_++ []));rw[List.append_nil];exact HE3.out⟩
 case round=>
  obtain⟨k,hk,rfl,ho⟩:=hrel;by_cases hlt:k<xs.length
  ·have c1:=ho.ch.cell (H1.out k hlt) (by omega);have hx:xs.getD k 0=xs[k]:=by simp[List.getD_eq_getElem?_getD,hlt]
   have hi':(k:Int)<(xs.length:Int):=by omega
   have hgx:=HG.out _ (List.getElem_mem hlt);rw[←hx] at hgx;have h2:=jP hgx;have hxb:=hgx.2;have hkl:(zm 3 c q++z8 (xs.take k)).length=12+2*k:=by rw[List.length_append,HY.out,Qq (fun x hx=>HG.out x (List.mem_of_mem_take hx)),List.length_take,Nat.min_eq_left hk]
   have HT:Hid (splice (ja (zm 3 c q++z8 (xs.take k))) (12+2*k) ((zk (xs.getD k 0) 2).map (Value.int .u8))=ja (zm 3 c q++z8 (xs.take (k+1)))):=by
    show _=_;rw[KH hlt,←List.append_assoc,←hkl];exact XG _ _
   have HL:Hid ((ja (zm 3 c q++z8 (xs.take k))).length=64):=qQ (by rw[hkl];omega);have H2:Hid _:=h2;have HO:Hid _:=ho;generalize ja (zm 3 c q++z8 (xs.take k))=cur at*;generalize xs.getD k 0=x at*;have q1:(0:Int)≤12+(k:Int)*2:=by omega
   have q2:12+(k:Int)*2≤64:=by omega
   have q3:(12+(k:Int)*2).toNat=12+2*k:=by omega
   have q5: ¬(64:Nat)=12+2*k:=by omega
   have q4:IntKind.i64.wrap ((k:Int)*2)=(k:Int)*2:=by rw[IntKind.wrap_i64];omega
   have q6:IntKind.i64.wrap (12+(k:Int)*2)=12+(k:Int)*2:=by rw[IntKind.wrap_i64];omega
   clear hx hgx h2 hkl ho k7;go_upto_region 5 with fail;have HS0:Hid _:=trivial;refine zp (fun _:World=>True) (by kernel_rfl) ?_;refine hTk 0 (za k) rfl (fun w' hw'=>by go_simp) HS0.out ?_;go_simp;refine hTk 1 (za ((k:Int)*2)) rfl (fun w' hw'=>by go_simp) HS0.out ?_;go_simp;refine hTk 2 (za (12+(k:Int)*2)) rfl (fun w' hw'=>by go_simp) HS0.out ?_;go_simp;refine hTk 3 (.slice (some ⟨N,12+2*k,none⟩) (64-(12+2*k)) (64-(12+2*k))) rfl (fun w' hw'=>by go_simp) HS0.out ?_
   go_simp;refine hTk 4 (za x) rfl (fun w' hw'=>by go_simp) HS0.out ?_;go_simp;have HO1:Hid _:=HO.out.chg (Chg.drew (Chg.refl 0 0 wr));clear HO;generalize wr.drew=x1 at*;have hN:=jc x1 x 2 (by omega);refine zg 5 rfl rfl (by kernel_rfl) ?_;refine zl 104 #[za x,za 2] (by first|kernel_rfl|go_simp) hN ?_;rintro e x2 ⟨r,rfl,o2,c2⟩;have HO2:Hid _:=HO1.out.chg c2;obtain⟨g,gc,rfl,hcell⟩:=o2.two H2.out (by omega) (by omega)
   refine⟨_,rfl,trivial,?_⟩;have Hcell:Hid _:=hcell;clear hN o2 c2 hcell HO1;go_simp;refine zg 6 rfl rfl (by kernel_rfl) ?_;refine jk (.tmp 20) (.tmp 22) 22 22 rfl 5 Tryz.underlying22 (by kernel_rfl) N (12+2*k) (64-(12+2*k)) (64-(12+2*k)) (zd g) 2 gc rfl rfl cur 72 HO2.out.b2 ((zk x 2).map (Value.int .u8)) (by rw[List.length_map,H2.out];exact(Nat.min_eq_left (by omega)).symm) Hcell.out (by rw[List.length_map,H2.out,HL.out];omega) (ints_oneCell _ _) ?_
   intro x3 hb3 hc3;have HO3:Hid (Enc w x3 N (jO 191 3 c q lv) (ja (zm 3 c q++z8 (xs.take (k+1))))):=by show Enc _ _ _ _ _;rw[←HT.out];exact HO2.out.put hc3 hb3.out
   refine⟨trivial,?_⟩;clear hb3 hc3 Hcell HO2;go_simp;refine zt (by kernel_rfl) (NoPanic.normal ?_);go_wp2;go_roundw
   case rel=>exact⟨k+1,by omega,by go_num,HO3.out⟩
   case measure=>simp[intOf];omega
  ·obtain rfl:k=xs.length:=by omega
   rw[List.take_length] at ho;have hcl:=qQ (Y:=zm 3 c q++z8 xs) (by rw[List.length_append,HY.out,Qq HG.out];omega);obtain⟨cs,hcs⟩: ∃cs,cs=ja (zm 3 c q++z8 xs):=⟨_,rfl⟩;rw[←hcs] at ho hcl;have HBm:Hid _:=ho;generalize wr=wf at*;clear ho HE3 k7;have HV2:Hid (∀v∈cs,v.oneCell'=true):=by show∀v∈cs,v.oneCell'=true;rw[hcs];exact Qm _
   have hics:(Tryz.prog.info? 72).map (·.size)=some cs.length:=by rw[hcl];kernel_rfl
   have Hcl:Hid _:=hcl;have Hcs:Hid _:=hcs;have u44:=Tryz.underlying72;have HR:Hid _:=zj HBm.out.b2;have HB1:Hid _:=HBm.out.b1;clear hcl hcs;go_wp2_with (first
    |(refine wpList_load_mid rfl 72 (.tmp 3) rfl N 0 rfl cs _ HR.out u44 rfl hics ?_)
    |(refine wpList_store_row rfl 72 (.tmp 2) (.tmp 25) rfl rfl (w.heap.size+1) rfl cs Z64 72 rfl HB1.out (by rw[zD];exact Hcl.out) hics HV2.out ?_;intro wg hbg hcg))
   have HCg:Hid _:=HBm.out.ch.step hcg (by omega);have hl1:(loadVar 72 (zd (w.heap.size+1))).run Tryz.prog wg= .ok (.agg cs.toArray) wg:=run_loadVar_mid _ _ _ _ cs _ (zj hbg) u44 rfl hics;go_wp2;exact bodyPost_ret (v:= .agg cs.toArray) (zu Tryz.results97 rfl hl1) rfl ⟨by rw[Hcs.out];rfl,HCg.out⟩
theorem YV {P:Program}{ops:Array Oper}{rest:List Oper}{o:Oper}{a:Act}{w:World}{Q:Exit→Act→World→Prop}(hgd:o.guard=none)(d s:Operand)(dT sT:TypeId)
  (ho:o.op= .call {callee:= .builtin .copy,args:= #[d,s],argTypes:= #[dT,sT]}) (elem:TypeId) (hu:P.underlying dT=some (.slice elem)) (hsz:(P.info? elem).map (·.size)=some 1)
  (g off dLen dCap:Nat) (ad:Addr) (sLen sCap:Nat) (hd:a.eval d= .slice (some ⟨g,off,none⟩) dLen dCap) (hs:a.eval s= .slice (some ad) sLen sCap)
  (cur:List Value) (t:TypeId) (hg:w.heap[g]?=some (.cells cur.toArray t (0,0))) (cs:List Value) (hn:cs.length=Nat.min sLen dLen)
  (hsrc: ∀j v,cs[j]?=some v→w.cell? (ad.add j)=some v) (hfit:off+cs.length≤cur.length) (h1: ∀v∈cs,v.oneCell'=true)
  (h: ∀w',Hid (w'.heap[g]?=some (.cells (splice cur off cs).toArray t (0,0)))→Chg g (g+1) w w'→wpList P ops Q rest (a.put o.dst (goInt cs.length)) w'):wpList P ops Q (o::rest) a w:=
 wpList_plain hgd fun _ hK=>jk d s dT sT ho elem hu hsz g off dLen dCap ad sLen sCap hd hs cur t hg cs hn hsrc hfit h1 fun w' h1 h2=>hK _ _ (h w' h1 h2)
theorem QZ (w:World)(c q:Int)(ts:List (Int×Bool))(b off cap:Nat)(hi:c≤9223372036854775807)(hq:q≤9223372036854775807)(hi2:(zk c 2).length=2)(hq4:(zk q 4).length=4)(hl:ts.length≤17)
  (hg: ∀x∈ts,0≤x.1∧x.1<2048) (h1: ∀i,i<ts.length→w.cell? ⟨b,off+i*2,none⟩=some (za (ts.getD i (0,false)).1)∧w.cell? ⟨b,off+i*2+1,none⟩=some (.bool (ts.getD i (0,false)).2)):
  Calls Tryz.prog 123 #[.agg #[zb 106,zb 108,zb 111,zb 103,za 2,za c,za q,.slice (some ⟨b,off,none⟩) ts.length cap]] w fun e w'=>e= .returned (.agg ((qc (zm 2 c q++zE ts)).map (Value.int .u8)).toArray)∧Chg 0 0 w w':=by
 have HG:Hid (∀x∈ts,0≤x.1∧x.1<2048):=hg;have H1:Hid (∀i,i<ts.length→w.cell? ⟨b,off+i*2,none⟩=some (za (ts.getD i (0,false)).1)∧w.cell? ⟨b,off+i*2+1,none⟩=some (.bool (ts.getD i (0,false)).2)):=h1;clear hg h1;obtain⟨lv,hlv⟩: ∃lv,lv=Value.slice (some ⟨b,off,none⟩) ts.length cap:=⟨_,rfl⟩;have Hlv:Hid (lv=Value.slice (some ⟨b,off,none⟩) ts.length cap):=hlv;rw[←hlv];clear hlv;have hN:=fun w=>Z6 w 106 108 111 103 2 c q (by omega) (by omega) hi hq hi2 hq4
 have Hi2:Hid ((zk c 2).length=2):=hi2;have Hq4:Hid ((zk q 4).length=4):=hq4;rw[XE hi2 hq4] at hN;have HY:Hid ((zm 2 c q).length=12):=qX hi2 hq4;obtain⟨bs,Hbs⟩: ∃bs,Hid (bs=ja (zm 2 c q)):=⟨_,rfl⟩;have Hbl:Hid (bs.length=64):=by show _=_;rw[Hbs.out];exact qQ (by rw[HY.out];omega)
 have HV:Hid (∀v∈bs,v.oneCell'=true):=by show∀v∈bs,v.oneCell'=true;rw[Hbs.out];exact Qm _
 rw[←Hbs.out] at hN;have hib:(Tryz.prog.info? 72).map (·.size)=some bs.length:=by rw[Hbl.out];kernel_rfl
 obtain⟨z1,z2,z3⟩:=zN w (jO 219 2 c q lv) (.cells Z64.toArray 72);have hA:Chg 0 0 w ((w.alloc (jO 219 2 c q lv)).alloc (.cells Z64.toArray 72)):=(Chg.alloc (Chg.refl 0 0 w) _).alloc _;have HZ:Hid (_∧_∧_∧_):=⟨z1,z2,z3,hA⟩;clear z1 z2 z3 hA hi2 hq4;go_enter Tryz.func123,Tryz.ntmps123;go_wp2_with fail;simp only[zM];generalize ((w.alloc (jO 219 2 c q lv)).alloc (.cells Z64.toArray 72))=wa at*;refine(hN wa).mono ?_
 rintro e w2 ⟨rfl,hc2⟩;have HE:Hid (Enc w (w2.alloc (.cells Z64.toArray 72)) w2.heap.size (jO 219 2 c q lv) Z64):=by
  obtain⟨z1,z2,z3,hA⟩:=HZ.out;have s2:=hc2.size;have hc3:Chg 0 0 wa (w2.alloc (.cells Z64.toArray 72)):=hc2.alloc _;exact⟨(hc3.block _ (by omega) (by omega)).trans z2,(hc3.block _ (by omega) (by omega)).trans z3,zh _ _,by omega,hA.trans hc3⟩
 clear hN hc2 HZ;have hg:=HE.out.b2;rw[←zM] at hg;have Hg:Hid (_=_):=hg;clear hg;go_upto_region 2 with(first
  |(refine wpList_store_row rfl 72 (.tmp 3) (.tmp 9) rfl rfl w2.heap.size rfl bs _ 72 rfl Hg.out (by rw[Hbl.out];rfl) hib HV.out ?_;intro w3 hb3 hc3))
 simp only[zM] at hc3;clear Hg;have HE3:Hid _:=HE.out.put hc3 hb3;have hlo:=HE3.out.lo;generalize w2.heap.size=N at*;clear hb3 hc3 HE;rw[Hbs.out] at HE3;clear Hbs Hbl HV hib;have k7:w3.cell? ⟨w.heap.size,7,none⟩=some (.slice (some ⟨b,off,none⟩) ts.length cap):=by
  have hb:=HE3.out.b0;simp[World.cell?,hb,Hlv.out]
 go_wp2;go_loopw [13] (fun x wr=> ∃k:Nat,k≤ts.length∧x=za k∧Enc w wr N (jO 219 2 c q lv) (ja (zm 2 c q++zE (ts.take k)))) (fun x _=>ts.length-(intOf x).toNat)
 case atStart=>exact⟨0,Nat.zero_le _,rfl,by rw[List.take_zero];show Enc _ _ _ _ (ja (_++ []));rw[List.append_nil];exact HE3.out⟩
 case round=>
  obtain⟨k,hk,rfl,ho⟩:=hrel;by_cases hlt:k<ts.length
  ·obtain⟨r1,r2⟩:=H1.out k hlt;have c1:=ho.ch.cell r1 (by omega);have c2:=ho.ch.cell r2 (by omega);clear r1 r2;have hx:ts.getD k (0,false)=ts[k]:=by simp[List.getD_eq_getElem?_getD,hlt]
   have hi':(k:Int)<(ts.length:Int):=by omega
   have hgx:=HG.out _ (List.getElem_mem hlt);rw[←hx] at hgx;have h2:=jP hgx;have hxb:=hgx.2;have hkl:(zm 2 c q++zE (ts.take k)).length=12+3*k:=by rw[List.length_append,HY.out,Qs (fun x hx=>HG.out x (List.mem_of_mem_take hx)),List.length_take,Nat.min_eq_left hk]
   have HT0:Hid (splice (ja (zm 2 c q++zE (ts.take k))) (12+3*k) ((zk (ts.getD k (0,false)).1 2).map (Value.int .u8))=ja (zm 2 c q++zE (ts.take k)++zk (ts.getD k (0,false)).1 2)):=by
    show _=_;rw[←hkl];exact XG _ _
   have hk2:(zm 2 c q++zE (ts.take k)++zk (ts.getD k (0,false)).1 2).length=12+3*k+2:=by rw[List.length_append,hkl,h2]
   have HT1:Hid ((ts.getD k (0,false)).2=true→(ja (zm 2 c q++zE (ts.take k)++zk (ts.getD k (0,false)).1 2)).set (12+3*k+2) (zb 1)=ja (zm 2 c q++zE (ts.take (k+1)))):=by
    show _→_;intro he;rw[←hk2,abO (by rw[hk2];omega),J6 hlt];unfold Xw;rw[if_pos he,←List.append_assoc,←List.append_assoc]
   have HT2:Hid ((ts.getD k (0,false)).2=false→ja (zm 2 c q++zE (ts.take k)++zk (ts.getD k (0,false)).1 2)=ja (zm 2 c q++zE (ts.take (k+1)))):=by
    show _→_;intro he;rw[VP (by rw[hk2];omega),J6 hlt];unfold Xw;rw[if_neg (by rw[he];simp),←List.append_assoc,←List.append_assoc]
   have HL:Hid ((ja (zm 2 c q++zE (ts.take k))).length=64):=qQ (by rw[hkl];omega);have HL2:Hid ((ja (zm 2 c q++zE (ts.take k)++zk (ts.getD k (0,false)).1 2)).length=64):=qQ (by rw[hk2];omega);have H2:Hid _:=h2;have HO:Hid _:=ho;generalize ja (zm 2 c q++zE (ts.take k))=cur at*;generalize ja (zm 2 c q++zE (ts.take k)++zk (ts.getD k (0,false)).1 2)=cur2 at*;clear hx hgx h2 hkl hk2 ho k7;generalize (ts.getD k (0,false)).1=x at*
   generalize (ts.getD k (0,false)).2=ee at*;have q1:(0:Int)≤12+(k:Int)*3:=by omega
   have q2:12+(k:Int)*3≤64:=by omega
   have q3:(12+(k:Int)*3).toNat=12+3*k:=by omega
   have q5: ¬(64:Nat)=12+3*k:=by omega
   have q4:IntKind.i64.wrap ((k:Int)*3)=(k:Int)*3:=by rw[IntKind.wrap_i64];omega
   have q6:IntKind.i64.wrap (12+(k:Int)*3)=12+(k:Int)*3:=by rw[IntKind.wrap_i64];omega
   have HO0:Hid (Enc w (wr.alloc (.cells #[za x,.bool ee] 176)) N (jO 219 2 c q lv) cur):=HO.out.chg (Chg.alloc (Chg.refl 0 0 wr) _);have Hd0:Hid ((wr.alloc (.cells #[za x,.bool ee] 176)).heap[wr.heap.size]?=some (.cells #[za x,.bool ee] 176 (0,0))):=zh _ _;have hNlt:=HO.out.lt;clear HO;go_upto_region 6 with fail;generalize wr.alloc (.cells #[za x,.bool ee] 176)=wa at*;obtain⟨d0,d1,_,_⟩:=zn Hd0.out
   have hdl:=(gLt Hd0.out);have hN:=jc wa x 2 (by omega);clear c1 c2;go_wp2_with fail;refine hN.mono ?_;rintro e x2 ⟨r,rfl,o2,c2⟩;have HO2:Hid _:=HO0.out.chg c2;have d1':=c2.cell d1 (by omega);obtain⟨g,gc,rfl,hcell⟩:=o2.two H2.out (by omega) (by omega);have Hcell:Hid _:=hcell;clear hN o2 c2 hcell HO0 Hd0 d0 d1;go_wp2_with (refine YV rfl (.tmp 22) (.tmp 25) 22 22 rfl 5 Tryz.underlying22 (by kernel_rfl) N (12+3*k) (64-(12+3*k)) (64-(12+3*k)) (zd g) 2 gc rfl rfl cur 72 HO2.out.b2 ((zk x 2).map (Value.int .u8)) (by rw[List.length_map,H2.out];exact(Nat.min_eq_left (by omega)).symm) Hcell.out (by rw[List.length_map,H2.out,HL.out];omega) (ints_oneCell _ _) ?_)
   intro x3 hb3 hc3;have HO3:Hid (Enc w x3 N (jO 219 2 c q lv) cur2):=by show Enc _ _ _ _ _;rw[←HT0.out];exact HO2.out.put hc3 hb3.out
   have d1:=hc3.cell d1' (by omega);clear hb3 hc3 Hcell HO2 d1'
   cases ee with
   |true=>
    have hb2:=HO3.out.b2;have HSt:Hid (cur2.set (12+3*k+2) (zb 1)=ja (zm 2 c q++zE (ts.take (k+1)))):=HT1.out rfl;obtain⟨cv,hcv⟩: ∃cv,cur2[12+3*k+2]?=some cv:=⟨_,List.getElem?_eq_getElem (by rw[HL2.out];omega)⟩;have ce:=qq.cell (w:=x3) (b:=N) (T:=72) (cs:=cur2) hb2 (12+3*k+2) hcv;have cf:=qq.frozen (w:=x3) (b:=N) (T:=72) (cs:=cur2) hb2 (12+3*k+2);have hlen:(2:Int)<((64-(12+3*k):Nat):Int):=by omega
    have HO4:Hid (Enc w (x3.setCell ⟨N,12+3*k+2,none⟩ (zb 1)) N (jO 219 2 c q lv) (ja (zm 2 c q++zE (ts.take (k+1))))):=by
     show Enc _ _ _ _ _;rw[←HSt.out];exact HO3.out.put (Chg.setCell (Chg.refl _ _ x3) (p:=⟨N,12+3*k+2,none⟩) (Or.inl ⟨Nat.le_refl _,Nat.lt_succ_self _⟩) _) (qq.put (w:=x3) (b:=N) (T:=72) (cs:=cur2) hb2 (12+3*k+2) (zb 1))
    clear hb2 hcv;go_wp2;go_roundw
    case rel=>exact⟨k+1,by omega,by go_num,HO4.out⟩
    case measure=>simp[intOf];omega
   |false=>
    have HO4:Hid (Enc w x3 N (jO 219 2 c q lv) (ja (zm 2 c q++zE (ts.take (k+1))))):=by
     show Enc _ _ _ _ _;rw[←HT2.out rfl];exact HO3.out
    go_wp2;go_roundw
    case rel=>exact⟨k+1,by omega,by go_num,HO4.out⟩
    case measure=>simp[intOf];omega
  ·obtain rfl:k=ts.length:=by omega
   rw[List.take_length] at ho;have hcl:=qQ (Y:=zm 2 c q++zE ts) (by rw[List.length_append,HY.out,Qs HG.out];omega);obtain⟨cs,hcs⟩: ∃cs,cs=ja (zm 2 c q++zE ts):=⟨_,rfl⟩;rw[←hcs] at ho hcl;have HBm:Hid _:=ho;generalize wr=wf at*;clear ho HE3 k7;have HV2:Hid (∀v∈cs,v.oneCell'=true):=by show∀v∈cs,v.oneCell'=true;rw[hcs];exact Qm _
   have hics:(Tryz.prog.info? 72).map (·.size)=some cs.length:=by rw[hcl];kernel_rfl
   have Hcl:Hid _:=hcl;have Hcs:Hid _:=hcs;have u44:=Tryz.underlying72;have HR:Hid _:=zj HBm.out.b2;have HB1:Hid _:=HBm.out.b1;clear hcl hcs;go_wp2_with (first
    |(refine wpList_load_mid rfl 72 (.tmp 3) rfl N 0 rfl cs _ HR.out u44 rfl hics ?_)
    |(refine wpList_store_row rfl 72 (.tmp 2) (.tmp 32) rfl rfl (w.heap.size+1) rfl cs Z64 72 rfl HB1.out (by rw[zD];exact Hcl.out) hics HV2.out ?_;intro wg hbg hcg))
   have HCg:Hid _:=HBm.out.ch.step hcg (by omega);have hl1:(loadVar 72 (zd (w.heap.size+1))).run Tryz.prog wg= .ok (.agg cs.toArray) wg:=run_loadVar_mid _ _ _ _ cs _ (zj hbg) u44 rfl hics;go_wp2;exact bodyPost_ret (v:= .agg cs.toArray) (zu Tryz.results123 rfl hl1) rfl ⟨by rw[Hcs.out];rfl,HCg.out⟩
theorem Vs (cs:Array Value)(w:World):(Go.method 421 191 (.agg cs) "loop.example/s01525/impl.wrong").run Tryz.prog w= .ok (201,.agg cs) w:=by kernel_rfl
theorem YO (cs:Array Value)(w:World):(Go.method 421 191 (.agg cs) "loop.example/s01525/impl.encoded").run Tryz.prog w= .ok (97,.agg cs) w:=by kernel_rfl
theorem U1 (w:World){lo hi b off cap:Nat}{xs:List Int}(q:Int)(hv:zr w lo hi .i64 (.slice (some ⟨b,off,none⟩) xs.length cap) xs)(hr:K7 xs)(hl1:1≤xs.length∧xs.length≤26)(h:1≤q∧q≤4294967295)(hi2:(zk (xs.length:Int) 2).length=2)(hq4:(zk q 4).length=4)(es:List Int)(he:es=qc (zm 3 (xs.length:Int) q++z8 xs))(hl:es.length=64)(hB:Byt es):
  Calls Tryz.prog 129 #[.iface 191 (.agg #[zb 106,zb 108,zb 111,zb 103,za 3,za (xs.length:Int),za q,.slice (some ⟨b,off,none⟩) xs.length cap]),.agg (es.map (Value.int .u8)).toArray] w fun e w'=>e= .returned .nilIface∧Chg 0 0 w w':=by
 have hcw: ∀W,Chg 0 0 w W→ ∀i,i<xs.length→W.cell? ⟨b,off+i,none⟩=some (za (xs.getD i 0)):=fun W hc i hi=>by
  obtain⟨_,_,e,_,_,hh⟩:=hv;rcases hh with hh|⟨b',o',e',_,_,hh⟩
  ·rw[hh] at hi;simp at hi
  ·injection e with e1 _ _;rw[e'] at e1
   cases e1
   exact hc.cell (hh i hi) (by omega)
 have hW:=fun W (hc:Chg 0 0 w W)=>abq W 3 q (hv.chg hc (by omega)) hr hl1 h;have hX:=fun W (hc:Chg 0 0 w W)=>Q0 W xs.length q xs b off cap (by omega) (by omega) hi2 hq4 (by omega) hr.2 (hcw W hc);clear hcw hv;rw[←he] at hX;have m1:=Vs #[zb 106,zb 108,zb 111,zb 103,za 3,za (xs.length:Int),za q,.slice (some ⟨b,off,none⟩) xs.length cap];have m2:=YO #[zb 106,zb 108,zb 111,zb 103,za 3,za (xs.length:Int),za q,.slice (some ⟨b,off,none⟩) xs.length cap]
 have hA:Chg 0 0 w (w.alloc (.cells (es.map (Value.int .u8)).toArray 72)):=Chg.alloc (Chg.refl 0 0 w) _;have hb:=zh w (.cells (es.map (Value.int .u8)).toArray 72);have Hl:Hid (es.length=64):=hl;have HB:Hid (Byt es):=hB;clear he hl hB;obtain⟨cs,hcs⟩: ∃cs,cs=es.map (Value.int .u8):=⟨_,rfl⟩;rw[←hcs] at hX hA hb⊢;have Hcs:Hid (cs=es.map (Value.int .u8)):=hcs;clear hcs;go_enter Tryz.func129,Tryz.ntmps129
 go_wp2_with fail;refine(hW _ hA).mono ?_;rintro e w1 ⟨rfl,c1⟩;have hb1:=(c1.block _ (gLt hb) (by omega)).trans hb;have HC1:Hid (Chg 0 0 w w1):=hA.trans c1;clear hW c1 hb hA;go_upto_region 4 with fail;have hb2:w1.drew.heap[w.heap.size]?=some (.cells cs.toArray 72 (0,0)):=hb1;have HC2:Hid (Chg 0 0 w w1.drew):=HC1.out.drew;refine zp (fun W'=>W'.heap[w.heap.size]?=some (.cells cs.toArray 72 (0,0))) (by kernel_rfl) ?_
 clear hb1 HC1;generalize w1.drew=wd at*;refine hTk 0 (.iface 191 (.agg #[zb 106,zb 108,zb 111,zb 103,za 3,za (xs.length:Int),za q,.slice (some ⟨b,off,none⟩) xs.length cap])) rfl (fun w' hw'=>by go_simp) hb2 ?_;go_simp;have hi28:(Tryz.prog.info? 72).map (·.size)=some cs.length:=by rw[Hcs.out,List.length_map,Hl.out];kernel_rfl
 have u28:=Tryz.underlying72;refine zv 2 (.agg cs.toArray) rfl (by kernel_rfl) (by kernel_rfl) (by kernel_rfl) (fun _ _ _ h=>h) (yieldsIf_load_mid (by kernel_rfl) 72 (.tmp 3) rfl w.heap.size 0 rfl cs _ (fun w' hw'=>zj hw') u28 rfl hi28) hb2 ?_;go_simp;refine zg 1 rfl rfl (by kernel_rfl) ?_;refine zl 97 #[.agg #[zb 106,zb 108,zb 111,zb 103,za 3,za (xs.length:Int),za q,.slice (some ⟨b,off,none⟩) xs.length cap]] (by first|kernel_rfl|go_simp) (hX wd HC2.out) ?_
 rintro e w3 ⟨rfl,c3⟩;have hb3:=(c3.block _ (gLt hb2) (by omega)).trans hb2;have HC3:Hid (Chg 0 0 w w3):=HC2.out.trans c3;have hEq: ∀W,(Op.equalIn 10000 72 (.agg cs.toArray) (.agg cs.toArray)).run Tryz.prog W= .ok true W:=fun W=>by
  rw[Hcs.out,qW W _ 64 u28 HB.out HB.out Hl.out Hl.out,decide_eq_true rfl]
 clear c3 HC2;refine⟨_,rfl,hb3,?_⟩;go_simp;refine hTk 3 (.bool false) rfl (fun w' hw'=>by go_simp) hb3 ?_;go_simp;refine zt (by kernel_rfl) (NoPanic.normal ?_);go_wp2;go_ret;exact⟨rfl,HC3.out⟩
theorem Vr (cs:Array Value)(w:World):(Go.method 421 219 (.agg cs) "loop.example/s01525/impl.wrong").run Tryz.prog w= .ok (202,.agg cs) w:=by kernel_rfl
theorem YN (cs:Array Value)(w:World):(Go.method 421 219 (.agg cs) "loop.example/s01525/impl.encoded").run Tryz.prog w= .ok (123,.agg cs) w:=by kernel_rfl
theorem U0 (w:World){b off cap:Nat}{ts:List (Int×Bool)}(q:Int)(hcell: ∀i,i<ts.length→w.cell? ⟨b,off+i*2,none⟩=some (za (ts.getD i (0,false)).1)∧w.cell? ⟨b,off+i*2+1,none⟩=some (.bool (ts.getD i (0,false)).2))(hr:K7 (ts.map Prod.fst))(hl1:1≤ts.length∧ts.length≤17)(h:1≤q∧q≤4294967295)(hi2:(zk (ts.length:Int) 2).length=2)(hq4:(zk q 4).length=4)(es:List Int)(he:es=qc (zm 2 (ts.length:Int) q++zE ts))(hl:es.length=64)(hB:Byt es):
  Calls Tryz.prog 129 #[.iface 219 (.agg #[zb 106,zb 108,zb 111,zb 103,za 2,za (ts.length:Int),za q,.slice (some ⟨b,off,none⟩) ts.length cap]),.agg (es.map (Value.int .u8)).toArray] w fun e w'=>e= .returned .nilIface∧Chg 0 0 w w':=by
 have hcw: ∀W,Chg 0 0 w W→ ∀i,i<ts.length→W.cell? ⟨b,off+i*2,none⟩=some (za (ts.getD i (0,false)).1)∧W.cell? ⟨b,off+i*2+1,none⟩=some (.bool (ts.getD i (0,false)).2):=fun W hc i hi=>⟨hc.cell (hcell i hi).1 (by omega),hc.cell (hcell i hi).2 (by omega)⟩;have hW:=fun W (hc:Chg 0 0 w W)=>abp (cap:=cap) W 2 q (hcw W hc) hr hl1 h;have hX:=fun W (hc:Chg 0 0 w W)=>QZ W ts.length q ts b off cap (by omega) (by omega) hi2 hq4 (by omega) (fun x hx=>hr.2 x.1 (List.mem_map.2 ⟨x,hx,rfl⟩)) (hcw W hc)
 clear hcw hcell;rw[←he] at hX;have m1:=Vr #[zb 106,zb 108,zb 111,zb 103,za 2,za (ts.length:Int),za q,.slice (some ⟨b,off,none⟩) ts.length cap];have m2:=YN #[zb 106,zb 108,zb 111,zb 103,za 2,za (ts.length:Int),za q,.slice (some ⟨b,off,none⟩) ts.length cap];have hA:Chg 0 0 w (w.alloc (.cells (es.map (Value.int .u8)).toArray 72)):=Chg.alloc (Chg.refl 0 0 w) _;have hb:=zh w (.cells (es.map (Value.int .u8)).toArray 72)
 have Hl:Hid (es.length=64):=hl;have HB:Hid (Byt es):=hB;clear he hl hB;obtain⟨cs,hcs⟩: ∃cs,cs=es.map (Value.int .u8):=⟨_,rfl⟩;rw[←hcs] at hX hA hb⊢;have Hcs:Hid (cs=es.map (Value.int .u8)):=hcs;clear hcs;go_enter Tryz.func129,Tryz.ntmps129;go_wp2_with fail;refine(hW _ hA).mono ?_;rintro e w1 ⟨rfl,c1⟩;have hb1:=(c1.block _ (gLt hb) (by omega)).trans hb;have HC1:Hid (Chg 0 0 w w1):=hA.trans c1;clear hW c1 hb hA
 go_upto_region 4 with fail;have hb2:w1.drew.heap[w.heap.size]?=some (.cells cs.toArray 72 (0,0)):=hb1;have HC2:Hid (Chg 0 0 w w1.drew):=HC1.out.drew;refine zp (fun W'=>W'.heap[w.heap.size]?=some (.cells cs.toArray 72 (0,0))) (by kernel_rfl) ?_;clear hb1 HC1;generalize w1.drew=wd at*;refine hTk 0 (.iface 219 (.agg #[zb 106,zb 108,zb 111,zb 103,za 2,za (ts.length:Int),za q,.slice (some ⟨b,off,none⟩) ts.length cap])) rfl (fun w' hw'=>by go_simp) hb2 ?_
 go_simp;have hi28:(Tryz.prog.info? 72).map (·.size)=some cs.length:=by rw[Hcs.out,List.length_map,Hl.out];kernel_rfl
 have u28:=Tryz.underlying72;refine zv 2 (.agg cs.toArray) rfl (by kernel_rfl) (by kernel_rfl) (by kernel_rfl) (fun _ _ _ h=>h) (yieldsIf_load_mid (by kernel_rfl) 72 (.tmp 3) rfl w.heap.size 0 rfl cs _ (fun w' hw'=>zj hw') u28 rfl hi28) hb2 ?_;go_simp;refine zg 1 rfl rfl (by kernel_rfl) ?_;refine zl 123 #[.agg #[zb 106,zb 108,zb 111,zb 103,za 2,za (ts.length:Int),za q,.slice (some ⟨b,off,none⟩) ts.length cap]] (by first|kernel_rfl|go_simp) (hX wd HC2.out) ?_
 rintro e w3 ⟨rfl,c3⟩;have hb3:=(c3.block _ (gLt hb2) (by omega)).trans hb2;have HC3:Hid (Chg 0 0 w w3):=HC2.out.trans c3;have hEq: ∀W,(Op.equalIn 10000 72 (.agg cs.toArray) (.agg cs.toArray)).run Tryz.prog W= .ok true W:=fun W=>by
  rw[Hcs.out,qW W _ 64 u28 HB.out HB.out Hl.out Hl.out,decide_eq_true rfl]
 clear c3 HC2;refine⟨_,rfl,hb3,?_⟩;go_simp;refine hTk 3 (.bool false) rfl (fun w' hw'=>by go_simp) hb3 ?_;go_simp;refine zt (by kernel_rfl) (NoPanic.normal ?_);go_wp2;go_ret;exact⟨rfl,HC3.out⟩
theorem Tryz.infoI:(Tryz.prog.info? 2).map (fun i=>(i.zero,i.size,i.bytes))=some (some (za 0),1,8):=by kernel_rfl
def zP (w:World) (base:Nat) (e:TypeId) (v:Value) (xs:List Int):Prop:=w.ownsRow base e 1 v xs.length (xs.map (Value.int .i64))
theorem zP.view {w:World}{base:Nat}{e:TypeId}{v:Value}{xs:List Int}(h:zP w base e v xs)(hl:xs.length≤9223372036854775807){hi:Nat}(hb: ∀g,v.ownBlock=some g→g<hi):zr w base hi .i64 v xs:=by
 have h':=h;obtain⟨_,h2⟩:=h;rcases h2 with⟨rfl,h0⟩|⟨g,cap,cur,rfl,hg,hh,hc,hm,hs,ht⟩
 ·obtain rfl:xs= []:=List.eq_nil_of_length_eq_zero h0;exact zr.nil _ _ _ _
 ·refine⟨_,cap,rfl,hl,⟨hc,by simp⟩,?_⟩;refine Or.inr ⟨g,0,rfl,hg,hb g rfl,fun i hi=>?_⟩;have:=World.ownsRow.cellAt h' i (by simpa using hi);rw[Nat.zero_add,this];simp[hi]
theorem zP.chg {w w':World}{base l r:Nat}{e:TypeId}{v:Value}{xs:List Int}(h:zP w base e v xs)(c:Chg l r w w')(d: ∀g,v.ownBlock=some g→g<l∨r≤g):zP w' base e v xs:=by
 obtain⟨h1,h2⟩:=h;refine⟨h1,?_⟩;rcases h2 with h2|⟨g,cap,cur,hv,hg,hh,r⟩
 ·exact Or.inl h2
 ·refine Or.inr ⟨g,cap,cur,hv,hg,?_,r⟩;rw[c.block g (gLt hh) (d g (by rw[hv];rfl))];exact hh
theorem zP.lt {w:World}{base:Nat}{e:TypeId}{v:Value}{xs:List Int}(h:zP w base e v xs): ∀g,v.ownBlock=some g→base≤g∧g<w.heap.size:=World.ownsRow.lt h
theorem EJ {o:Oper}{a:Act}{w:World}{K:Act→World→Prop}{Q:Exit→Act→World→Prop}(s x:Operand)
  (ho:o.op= .call {callee:= .builtin .append,args:= #[s,x],argTypes:= #[33,33]})
  (base:Nat) (sv:Value) (xs:List Int) (hs:a.eval s=sv) (hO:zP w base 2 sv xs) (hbase:base≤w.heap.size) (lo hi:Nat) (xv:Value) (ys:List Int) (hx:a.eval x=xv) (hv:zr w lo hi .i64 xv ys) (hy:0<ys.length) (hl:xs.length+ys.length≤1048576)
  (h: ∀v' w',zP w' base 2 v' (xs++ys)→Chg base w.heap.size w w'→K (a.put o.dst v') w'):o.wp Tryz.prog a w K Q:=by
 obtain⟨i,hi,hz0,hz1,hz2⟩:=info_parts Tryz.infoI;obtain⟨ao,cap,rfl,_,_,hcell⟩:=hv;obtain⟨b,off,rfl,hc⟩: ∃b off,ao=some ⟨b,off,none⟩∧ ∀i,i<ys.length→w.cell? ⟨b,off+i,none⟩=some (za (ys.getD i 0)):=by
  rcases hcell with e|⟨b,off,e,_,_,h3⟩
  ·rw[e] at hy;simp at hy
  ·exact⟨b,off,e,h3⟩
 have HNW: ∀j u,(ys.map (Value.int .i64))[j]?=some u→w.cell? ((⟨b,off,none⟩:Addr).add j)=some u:=by
  intro j u hj;have hjl:j<ys.length:=by have:=(List.getElem?_eq_some_iff.1 hj).1;simpa using this
  rw[Go.WideShapes.add_plain,hc j hjl,←hj];simp[List.getD_eq_getElem?_getD,hjl]
 have hrow:w.ownsRow base 2 1 sv xs.length (xs.map (Value.int .i64)):=hO;refine wp_append_own _ s x 33 ho base 2 i (za 0) 1 8 Tryz.underlying33 hi hz0 hz1 hz2 rfl (by decide) sv xs.length (xs.map (Value.int .i64)) hs hrow ⟨b,off,none⟩ ys.length cap (ys.map (Value.int .i64)) hx (by simp) HNW ?_ (by unfold maxLen;omega) (by omega) hbase ?_
 ·intro u hu;obtain⟨y,_,rfl⟩:=List.mem_map.1 hu;rfl
 ·intro v' w2 hown hgrow _;refine h v' w2 ?_ (Chg.ofGrown hgrow (fun k hk _=>World.ownsRow.lt hrow k hk));unfold zP;rw[List.length_append,List.map_append];exact hown
theorem QP {ops:Array Oper}{rest:List Oper}{o:Oper}{a:Act}{w:World}{Q:Exit→Act→World→Prop}(hgd:o.guard=none)(s x:Operand)
  (ho:o.op= .call {callee:= .builtin .append,args:= #[s,x],argTypes:= #[33,33]})
  (base:Nat) (sv:Value) (xs:List Int) (hs:a.eval s=sv) (hO:zP w base 2 sv xs) (hbase:base≤w.heap.size) (lo hi:Nat) (xv:Value) (ys:List Int) (hx:a.eval x=xv) (hv:zr w lo hi .i64 xv ys) (hy:0<ys.length) (hl:xs.length+ys.length≤1048576)
  (h: ∀v' w',zP w' base 2 v' (xs++ys)→Chg base w.heap.size w w'→wpList Tryz.prog ops Q rest (a.put o.dst v') w'):wpList Tryz.prog ops Q (o::rest) a w:=
 wpList_plain hgd fun _ hK=>EJ s x ho base sv xs hs hO hbase lo hi xv ys hx hv hy hl fun v' w' h1 h2=>hK _ _ (h v' w' h1 h2)
theorem zP.at {w:World}{base:Nat}{e:TypeId}{v:Value}{xs:List Int}(h:zP w base e v xs)(hn:0<xs.length): ∃g cap,v= .slice (some (zd g)) xs.length cap∧base≤g∧g<w.heap.size:=by
 have hb:=h.lt;obtain⟨_,h2⟩:=h;rcases h2 with⟨_,h0⟩|⟨g,cap,cur,rfl,hg,_⟩
 ·omega
 ·exact⟨g,cap,rfl,hg,(hb g rfl).2⟩
theorem zP.cell {w:World}{base:Nat}{e:TypeId}{g n cap:Nat}{xs:List Int}(h:zP w base e (.slice (some (zd g)) n cap) xs)(hn:xs.length=n)(j:Nat)(hj:j<n):w.cell? ⟨g,j,none⟩=some (za (xs.getD j 0)):=by
 subst hn;rw[World.ownsRow.cellAt h j (by omega),List.getElem?_map,List.getElem?_eq_getElem hj];simp[List.getD_eq_getElem?_getD,List.getElem?_eq_getElem hj]
theorem zP.none0 (w:World):zP (w.alloc (.cells #[] 2)) w.heap.size 2 (.slice (some (zd w.heap.size)) 0 0) []:=by
 have:=World.ownsRow_lit (base:=w.heap.size) (e:=2) (size:=1) w #[] 0 (Nat.le_refl _) (by unfold maxLen;omega) rfl;simpa [zP] using this
theorem zi.same {w w':World}{base:Nat}{e:TypeId}{v:Value}{xs:List Int}(h:zi w base e v xs)(hs: ∀j,v.ownBlock=some j→w'.heap[j]?=w.heap[j]?):zi w' base e v xs:=by
 obtain⟨h1,h2⟩:=h;refine⟨h1,?_⟩;rcases h2 with h2|⟨g,cap,cur,hv,hg,hh,r⟩
 ·exact Or.inl h2
 ·exact Or.inr ⟨g,cap,cur,hv,hg,(hs g (by rw[hv];rfl)).trans hh,r⟩
theorem zw {w:World}{base:Nat}{e:TypeId}{size n:Nat}{v:Value}{xs:List Value}(h:w.ownsRow base e size v n xs){j:Nat}(hj:v.ownBlock=some j): ∃cur,w.heap[j]?=some (.cells cur e (0,0)):=by
 rcases h.2 with⟨h',_⟩|⟨g',cap',cur,h',hb,hg,_⟩
 ·rw[h'] at hj;cases hj
 ·rw[h'] at hj;cases hj;exact⟨cur,hg⟩
theorem zR {w:World}{i j:Nat}{c c':Array Value}{t t':TypeId}(h:w.heap[i]?=some (.cells c t (0,0)))(h':w.heap[j]?=some (.cells c' t' (0,0)))(ht:t≠t'):i≠j:=by
 intro e;rw[e,h'] at h;simp only[Option.some.injEq,Obj.cells.injEq] at h;exact ht h.2.1.symm
end Go.Proofs.YtacjklochmelfaaGreatDoor
