import Derived.Test.YtacjklochmelfaaGreatDoorPutByt
import Derived.Test.YtacjklochmelfaaGreatDoorSurvLast
import Derived.Test.YtacjklochmelfaaGreatDoorOkSup
import Derived.Test.YtacjklochmelfaaGreatDoorHeld
import Derived.Test.YtacjklochmelfaaGreatDoorWeak
import Derived.Deep.RegionWith
import Derived.Deep.DeepCutAuto
import Derived.Test.YtacjklochmelfaaGreatDoorTagOwn
import Derived.Test.YtacjklochmelfaaGreatDoorCells2
import Derived.Test.YtacjklochmelfaaGreatDoorJReadC
import Derived.Test.YtacjklochmelfaaGreatDoorEscMath
import Derived.Test.YtacjklochmelfaaGreatDoorRowsE
import Derived.Test.YtacjklochmelfaaGreatDoorRows
import Derived.Deep.MidRow
import Derived.Deep.DeepAppendRoom
import Derived.Great.BuildSlice
namespace Go.Proofs.YtacjklochmelfaaGreatDoor
open Go.RowKit
set_option maxRecDepth 100000
set_option maxHeartbeats 16000000
theorem abh (c q s:Int):zm 1 c q++zk s 2++List.replicate 46 0=jd 106 108 111 103 1 c q s:=by
 unfold zm jd mg;simp
theorem VB (w:World)(c s q:Int)(h:OkS c q s)(hB:Byt (jd 106 108 111 103 1 c q s)):
  Calls Tryz.prog 43 #[.agg #[za c,za s,za q]] w fun e w'=> ∃v,e= .returned v∧zi w' w.heap.size 5 v (qJ 106 108 111 103 1 c q s)∧Chg 0 0 w w':=by
 obtain⟨a1,a2,a3,a4,a5,a6⟩:=h;have Hc2:Hid ((zk c 2).length=2):=pn2 (by omega) (by omega);have Hq4:Hid ((zk q 4).length=4):=pn4 (by omega) (by omega);have Hs2:Hid _:=pn2 (by omega) (by omega);have HBy:Hid _:=hB;have hg:qf q=true:=by unfold qf;rw[decide_eq_true a1,decide_eq_true a2];rfl
 have C0:Chg 0 0 w (w.alloc (.cells #[za c,za s,za q] 45)):=Chg.alloc (Chg.refl 0 0 w) _;have B0:=zh w (.cells #[za c,za s,za q] 45);have s0:(w.alloc (.cells #[za c,za s,za q] 45)).heap.size=w.heap.size+1:=by simp
 have hN:=jp (w.alloc (.cells #[za c,za s,za q] 45)) q;rw[hg] at hN;have HB:Hid _:=B0;have HC:Hid _:=C0;have b1: ¬c<16:=by omega
 have b2: ¬512<c:=by omega
 have b3: ¬s<0:=by omega
 have b4: ¬c<s:=by omega
 clear C0 B0 hB hg;go_enter Tryz.func43,Tryz.ntmps43;go_wp2_with fail;generalize w.alloc (.cells #[za c,za s,za q] 45)=w1 at*;refine hN.mono ?_;rintro e w2 ⟨rfl,rfl⟩;have hlt:w.heap.size<w2.heap.size:=by omega
 clear hN s0;obtain⟨k0,k1,k2⟩:=EG HB.out;go_upto_region 4 with fail;go_cut [4] (fun s4 wx=>zi wx w.heap.size 5 s4 (zm 1 c q++zk s 2)∧Chg 0 0 w2 wx)
 case first=>
  have HS0:Hid (w2.drew.cell? (zd w.heap.size)=some (za c)∧w2.drew.cell? ⟨w.heap.size,1,none⟩=some (za s)∧w2.drew.cell? ⟨w.heap.size,2,none⟩=some (za q)):=⟨k0,k1,k2⟩;have HC0:Hid _:=Chg.drew (Chg.refl 0 0 w2);have hq2:q≤9223372036854775807:=by omega
  clear k0 k1 k2;refine zp (fun w':World=>w'.cell? (zd w.heap.size)=some (za c)∧w'.cell? ⟨w.heap.size,1,none⟩=some (za s)∧w'.cell? ⟨w.heap.size,2,none⟩=some (za q)) (by kernel_rfl) ?_;refine hTk 0 (.pointer (some (zd w.heap.size))) rfl (fun w' hw'=>by have h4:=hw'.1;have h5:=hw'.2.1;have h6:=hw'.2.2;go_simp) HS0.out ?_;go_simp;refine hTk 1 (za c) rfl (fun w' hw'=>by have h4:=hw'.1;have h5:=hw'.2.1;have h6:=hw'.2.2;go_simp) HS0.out ?_
  go_simp;refine hTk 2 (.pointer (some ⟨w.heap.size,2,none⟩)) rfl (fun w' hw'=>by have h4:=hw'.1;have h5:=hw'.2.1;have h6:=hw'.2.2;go_simp) HS0.out ?_;go_simp;refine hTk 3 (za q) rfl (fun w' hw'=>by have h4:=hw'.1;have h5:=hw'.2.1;have h6:=hw'.2.2;go_simp) HS0.out ?_;go_simp;refine hTk 5 (.pointer (some ⟨w.heap.size,1,none⟩)) rfl (fun w' hw'=>by have h4:=hw'.1;have h5:=hw'.2.1;have h6:=hw'.2.2;go_simp) HS0.out ?_
  go_simp;refine hTk 6 (za s) rfl (fun w' hw'=>by have h4:=hw'.1;have h5:=hw'.2.1;have h6:=hw'.2.2;go_simp) HS0.out ?_;go_simp;have hds:w.heap.size<w2.drew.heap.size:=by show w.heap.size<w2.heap.size;omega
  generalize w2.drew=w3 at*;have hN:=ZN w3 1 c q (by omega) (by omega) (by omega) Hc2.out Hq4.out;refine zg 4 rfl rfl (by kernel_rfl) ?_;refine zl 73 #[za 1,za c,za q] (by first|kernel_rfl|go_simp) hN ?_;rintro e w4 ⟨v4,rfl,o4,h4⟩;obtain⟨e4,l4,c4,rfl⟩:=zx o4;have HS4:Hid (w4.cell? (zd w.heap.size)=some (za c)∧w4.cell? ⟨w.heap.size,1,none⟩=some (za s)∧w4.cell? ⟨w.heap.size,2,none⟩=some (za q)):=⟨h4.cell HS0.out.1 (by omega),h4.cell HS0.out.2.1 (by omega),h4.cell HS0.out.2.2 (by omega)⟩
  have s4:=h4.size;have HO4:Hid (zi w4 w3.heap.size 5 (.slice e4 l4 c4) (zm 1 c q)):=o4;have HC4:Hid _:=HC0.out.trans h4;refine⟨_,rfl,HS4.out,?_⟩;clear hN o4 h4;go_simp;have hN:=zI w4 s 2 (by omega);refine zg 7 rfl rfl (by kernel_rfl) ?_;refine zl 71 #[za s,za 2] (by first|kernel_rfl|go_simp) hN ?_;rintro e w5 ⟨v5,rfl,o5,h5⟩;have HS5:Hid (_∧_∧_):=⟨h5.cell HS4.out.1 (by omega),h5.cell HS4.out.2.1 (by omega),h5.cell HS4.out.2.2 (by omega)⟩
  have s5:=h5.size;have HV4:Hid (zr w5 w3.heap.size w4.heap.size .u8 (.slice e4 l4 c4) (zm 1 c q)):=(HO4.out.view (by have h1:=Hc2.out;have h2:=Hq4.out;simp[zm,mg,h1,h2]) (fun g hg=>(HO4.out.lt g hg).2)).chg h5 (by omega);have HV5:Hid (zr w5 w4.heap.size w5.heap.size .u8 v5 (zk s 2)):=o5.view (by rw[Hs2.out];omega) (fun g hg=>(o5.lt g hg).2);obtain⟨e5,l5,c5,rfl⟩:=zx o5;have HC5:Hid _:=HC4.out.trans h5
  refine⟨_,rfl,HS5.out,?_⟩;clear hN o5 h5;go_simp;obtain⟨b5,f5,rfl⟩: ∃b f,e5=some ⟨b,f,none⟩:=by
   obtain⟨ao,cap,e,_,_,h⟩:=HV5.out;rcases h with h|⟨b,off,hb,_⟩
   ·have:=Hs2.out;rw[h] at this;simp at this
   ·simp only[Value.slice.injEq] at e;exact⟨b,off,by rw[e.1,hb]⟩
  have hN:=jF (xs:=zm 1 c q) (ys:=zk s 2) w5 (by have h1:=Hc2.out;have h2:=Hq4.out;simp[zm,mg,h1,h2]) (by rw[Hs2.out];omega) HV4.out HV5.out (by rw[Hs2.out];omega);refine zg 8 rfl rfl (by kernel_rfl) ?_;refine zl 47 #[.slice e4 l4 c4,.slice (some ⟨b5,f5,none⟩) l5 c5] (by first|kernel_rfl|go_simp) hN ?_;rintro e w6 ⟨v6,rfl,o6,h6⟩;have HS6:Hid (_∧_∧_):=⟨h6.cell HS5.out.1 (by omega),h6.cell HS5.out.2.1 (by omega),h6.cell HS5.out.2.2 (by omega)⟩
  have s6:=h6.size;have Hl14:Hid ((zm 1 c q++zk s 2).length=14):=by
   show _=_;have h1:=Hc2.out;have h2:=Hq4.out;have h3:=Hs2.out;simp[zm,mg,h1,h2,h3]
  have HO6:Hid (zi w6 w.heap.size 5 v6 (zm 1 c q++zk s 2)):=o6.base (fun g hg=>by have:=(o6.lt g hg).1;omega);obtain⟨e6,l6,c6,rfl⟩:=zx o6;have HC6:Hid _:=HC5.out.trans h6;refine⟨_,rfl,HS6.out,?_⟩;clear hN o6 h6;go_simp;refine zg 9 rfl rfl (by kernel_rfl) ?_;go_simp;refine⟨HS6.out,?_⟩;refine zt (by kernel_rfl) (NoPanic.normal ?_);go_wp2;go_meet;exact⟨HO6.out,HC6.out⟩
 case rest=>
  obtain⟨ho,hc⟩:=hcut;have hl14:(zm 1 c q++zk s 2).length=14:=by
   have h1:=Hc2.out;have h2:=Hq4.out;have h3:=Hs2.out;simp[zm,mg,h1,h2,h3]
  have Hl14:Hid _:=hl14;obtain⟨hd,Hhd⟩: ∃hd,Hid (hd=zm 1 c q++zk s 2):=⟨_,rfl⟩;rw[←Hhd.out] at ho hl14;have Hl:Hid _:=hl14;have sW:=hc.size;have HCw:Hid _:=HC.out.trans hc;have vh:=ho.view (hi:=wc.heap.size) (by omega) (fun g hg=>(ho.lt g hg).2);obtain⟨e4,l4,c4,rfl⟩:=zx ho;generalize wc=w3 at*;clear ho hc Hl14 hl14 k0 k1 k2;have hN:=qM w3 46 (by omega);go_wp2_with fail;refine hN.mono ?_;rintro e w4 ⟨g,rfl,oz,h4⟩
  have s4:=h4.size;have vz:=oz.view (hi:=w4.heap.size) (by simp) (fun g hg=>(oz.lt g hg).2);have vh4:=vh.chg h4 (by omega);have HC4:Hid _:=HCw.out.trans h4;have hN2:=jF (xs:=hd) (ys:=List.replicate 46 0) w4 (by have:=Hl.out;omega) (by simp) vh4 vz (by simp);rw[show hd++List.replicate 46 0=jd 106 108 111 103 1 c q s from by rw[Hhd.out];exact abh c q s] at hN2;clear hN oz h4 vz vh vh4;go_wp2_with fail
  refine hN2.mono ?_;rintro e w5 ⟨v5,rfl,o5,h5⟩;have s5:=h5.size;have Hal:Hid ((jd 106 108 111 103 1 c q s).length=60):=j6 Hc2.out Hq4.out Hs2.out;have va:=o5.view (hi:=w5.heap.size) (by rw[Hal.out];omega) (fun g hg=>(o5.lt g hg).2);obtain⟨e5,l5,c5,rfl⟩:=zx o5;have HC5:Hid _:=HC4.out.trans h5;obtain⟨hc0,hc1⟩:=qp (jd 106 108 111 103 1 c q s);have hc4:=pn4 hc0 hc1;have HSL:Hid (jd 106 108 111 103 1 c q s++zk (jW (jd 106 108 111 103 1 c q s)) 4=qJ 106 108 111 103 1 c q s):=rfl
  have hN:=Qi w5 HBy.out va;have va':=va;generalize jd 106 108 111 103 1 c q s=xa at*;generalize jW xa=cv at*;have Hc4:Hid _:=hc4;clear hN2 o5 h5 hc4;go_wp2_with fail;refine hN.mono ?_;rintro e w6 ⟨rfl,rfl⟩;have hN3:=zI w6 cv 4 (by omega);clear hN;go_wp2_with fail;refine hN3.mono ?_;rintro e w7 ⟨v7,rfl,o7,h7⟩;have s7:=h7.size;have HC7:Hid _:=HC5.out.trans h7;have va7:=va.chg h7 (by omega);have v7':=o7.view (hi:=w7.heap.size) (by rw[Hc4.out];omega) (fun g hg=>(o7.lt g hg).2)
  obtain⟨g7,c7,rfl⟩: ∃g c,v7= .slice (some (zd g)) 4 c:=by
   rcases o7.2 with⟨_,h0⟩|⟨g,gc,cur,rfl,_⟩
   ·rw[Hc4.out] at h0;omega
   ·exact⟨g,gc,by rw[Hc4.out]⟩
  have hN4:=jF (xs:=xa) (ys:=zk cv 4) w7 (by rw[Hal.out];omega) (by rw[Hc4.out];omega) va7 v7' (by rw[Hc4.out];omega);rw[HSL.out] at hN4;clear hN3 o7 h7 va va' va7 v7';go_wp2_with fail;refine hN4.mono ?_;rintro e w8 ⟨v8,rfl,o8,h8⟩;have HO8:Hid (zi w8 w.heap.size 5 v8 (qJ 106 108 111 103 1 c q s)):=o8.base (fun g hg=>by have:=(o8.lt g hg).1;have:=HC7.out.size;omega);have HC8:Hid _:=HC7.out.trans h8
  clear hN4 o8 h8;go_wp2;go_ret;exact⟨_,rfl,HO8.out,HC8.out⟩
theorem VC (w:World)(c s q:Int)(m0:w.cell? (zd 0)=some (zb 106))(m1:w.cell? ⟨0,1,none⟩=some (zb 108))(m2:w.cell? ⟨0,2,none⟩=some (zb 111))(m3:w.cell? ⟨0,3,none⟩=some (zb 103)):
  Calls Tryz.prog 91 #[.agg #[za c,za s,za q]] w fun e w'=>e= .returned (.agg #[zb 106,zb 108,zb 111,zb 103,za 1,za c,za q,za s])∧Chg 0 0 w w':=by
 have C0:Chg 0 0 w ((w.alloc (.cells #[za c,za s,za q] 45)).alloc (.cells #[zb 0,zb 0,zb 0,zb 0,za 0,za 0,za 0,za 0] 182)):=(Chg.alloc (Chg.refl 0 0 w) _).alloc _;have B0:((w.alloc (.cells #[za c,za s,za q] 45)).alloc (.cells #[zb 0,zb 0,zb 0,zb 0,za 0,za 0,za 0,za 0] 182)).heap[w.heap.size]?=some (.cells #[za c,za s,za q] 45 (0,0)):=VH _ _ _;have B1:((w.alloc (.cells #[za c,za s,za q] 45)).alloc (.cells #[zb 0,zb 0,zb 0,zb 0,za 0,za 0,za 0,za 0] 182)).heap[w.heap.size+1]?=some (.cells #[zb 0,zb 0,zb 0,zb 0,za 0,za 0,za 0,za 0] 182 (0,0)):=Ka _ _ _
 have hlt:w.heap.size+1<((w.alloc (.cells #[za c,za s,za q] 45)).alloc (.cells #[zb 0,zb 0,zb 0,zb 0,za 0,za 0,za 0,za 0] 182)).heap.size:=(gLt B1);have HM:Hid (w.cell? (zd 0)=some (zb 106)∧w.cell? ⟨0,1,none⟩=some (zb 108)∧w.cell? ⟨0,2,none⟩=some (zb 111)∧w.cell? ⟨0,3,none⟩=some (zb 103)):=⟨m0,m1,m2,m3⟩;obtain⟨k0,k1,k2⟩:=EG B0;have HC0:Hid (Chg 0 0 w ((w.alloc (.cells #[za c,za s,za q] 45)).alloc (.cells #[zb 0,zb 0,zb 0,zb 0,za 0,za 0,za 0,za 0] 182))):=C0
 have HB1:Hid (((w.alloc (.cells #[za c,za s,za q] 45)).alloc (.cells #[zb 0,zb 0,zb 0,zb 0,za 0,za 0,za 0,za 0] 182)).heap[w.heap.size+1]?=some (.cells #[zb 0,zb 0,zb 0,zb 0,za 0,za 0,za 0,za 0] 182 (0,0))):=B1;have HS0:Hid (((w.alloc (.cells #[za c,za s,za q] 45)).alloc (.cells #[zb 0,zb 0,zb 0,zb 0,za 0,za 0,za 0,za 0] 182)).drew.cell? (zd w.heap.size)=some (za c)∧((w.alloc (.cells #[za c,za s,za q] 45)).alloc (.cells #[zb 0,zb 0,zb 0,zb 0,za 0,za 0,za 0,za 0] 182)).drew.cell? ⟨w.heap.size,1,none⟩=some (za s)∧((w.alloc (.cells #[za c,za s,za q] 45)).alloc (.cells #[zb 0,zb 0,zb 0,zb 0,za 0,za 0,za 0,za 0] 182)).drew.cell? ⟨w.heap.size,2,none⟩=some (za q)):=⟨k0,k1,k2⟩
 clear C0 B0 B1 m0 m1 m2 m3 k0 k1 k2;go_enter Tryz.func91,Tryz.ntmps91;go_upto_region 1 with fail;generalize ((w.alloc (.cells #[za c,za s,za q] 45)).alloc (.cells #[zb 0,zb 0,zb 0,zb 0,za 0,za 0,za 0,za 0] 182))=wa at*;refine zp (fun w':World=>w'.cell? (zd w.heap.size)=some (za c)∧w'.cell? ⟨w.heap.size,1,none⟩=some (za s)∧w'.cell? ⟨w.heap.size,2,none⟩=some (za q)) (by kernel_rfl) ?_;refine hTk 0 (.pointer (some (zd w.heap.size))) rfl (fun w' hw'=>by have h4:=hw'.1;have h5:=hw'.2.1;have h6:=hw'.2.2;go_simp) HS0.out ?_
 go_simp;refine hTk 1 (za c) rfl (fun w' hw'=>by have h4:=hw'.1;have h5:=hw'.2.1;have h6:=hw'.2.2;go_simp) HS0.out ?_;go_simp;refine hTk 2 (.pointer (some ⟨w.heap.size,2,none⟩)) rfl (fun w' hw'=>by have h4:=hw'.1;have h5:=hw'.2.1;have h6:=hw'.2.2;go_simp) HS0.out ?_;go_simp;refine hTk 3 (za q) rfl (fun w' hw'=>by have h4:=hw'.1;have h5:=hw'.2.1;have h6:=hw'.2.2;go_simp) HS0.out ?_;go_simp;refine hTk 5 (.pointer (some ⟨w.heap.size,1,none⟩)) rfl (fun w' hw'=>by have h4:=hw'.1;have h5:=hw'.2.1;have h6:=hw'.2.2;go_simp) HS0.out ?_
 go_simp;refine hTk 6 (za s) rfl (fun w' hw'=>by have h4:=hw'.1;have h5:=hw'.2.1;have h6:=hw'.2.2;go_simp) HS0.out ?_;go_simp;have HC1:Hid (Chg 0 0 w wa.drew):=HC0.out.drew;have HB2:Hid (wa.drew.heap[w.heap.size+1]?=some (.cells #[zb 0,zb 0,zb 0,zb 0,za 0,za 0,za 0,za 0] 182 (0,0))):=HB1.out;have hlt2:w.heap.size+1<wa.drew.heap.size:=hlt;generalize wa.drew=w1 at*;have hN:=jR w1 1 c q (HC1.out.cell HM.out.1 (by omega)) (HC1.out.cell HM.out.2.1 (by omega)) (HC1.out.cell HM.out.2.2.1 (by omega)) (HC1.out.cell HM.out.2.2.2 (by omega))
 refine zg 4 rfl rfl (by kernel_rfl) ?_;refine zl 102 #[za 1,za c,za q] (by first|kernel_rfl|go_simp) hN ?_;rintro e w2 ⟨rfl,h2⟩;have HS2:Hid (_∧_∧_):=⟨h2.cell HS0.out.1 (by omega),h2.cell HS0.out.2.1 (by omega),h2.cell HS0.out.2.2 (by omega)⟩;have HC2:Hid _:=HC1.out.trans h2;have HB3:Hid (w2.heap[w.heap.size+1]?=some (.cells #[zb 0,zb 0,zb 0,zb 0,za 0,za 0,za 0,za 0] 182 (0,0))):=(h2.block (w.heap.size+1) hlt2 (by omega)).trans HB2.out
 refine⟨_,rfl,HS2.out,?_⟩;clear hN h2;go_simp;refine hTk 7 (.agg #[zb 106,zb 108,zb 111,zb 103,za 1,za c,za q,za s]) rfl (fun w' hw'=>by have h4:=hw'.1;have h5:=hw'.2.1;have h6:=hw'.2.2;go_simp) HS2.out ?_;go_simp;refine zg 8 rfl rfl (by kernel_rfl) ?_;refine wp_store_row 182 (.tmp 2) (.tmp 10) rfl rfl (w.heap.size+1) rfl [zb 106,zb 108,zb 111,zb 103,za 1,za c,za q,za s] [zb 0,zb 0,zb 0,zb 0,za 0,za 0,za 0,za 0] 182 rfl HB3.out rfl (by kernel_rfl) (by simp[Value.oneCell']) ?_
 intro w3 hb3 hc3;have HS3:Hid (_∧_∧_):=⟨hc3.cell HS2.out.1 (by omega),hc3.cell HS2.out.2.1 (by omega),hc3.cell HS2.out.2.2 (by omega)⟩;have HC3:Hid _:=HC2.out.step hc3 (by omega);have HB4:Hid _:=hb3;refine⟨HS3.out,?_⟩;clear hb3 hc3;refine zt (by kernel_rfl) (NoPanic.normal ?_);go_wp2;have hb:=HB4.out;exact bodyPost_ret (v:= .agg #[zb 106,zb 108,zb 111,zb 103,za 1,za c,za q,za s]) (by simp[results,Tryz.results91,go_sem,World.cell?,hb]) rfl ⟨rfl,HC3.out⟩
theorem JF (cs:Array Value)(w:World):(Go.method 421 182 (.agg cs) "loop.example/s01525/impl.wrong").run Tryz.prog w= .ok (197,.agg cs) w:=by kernel_rfl
theorem QN (cs:Array Value)(w:World):(Go.method 421 182 (.agg cs) "loop.example/s01525/impl.encoded").run Tryz.prog w= .ok (196,.agg cs) w:=by kernel_rfl
theorem YH (w:World)(h0 h1 h2 h3 kd it sq st:Int)(hk0:0≤kd)(hk1:kd<256)(h:OkS it sq st)(hB:Byt (jd h0 h1 h2 h3 kd it sq st)):
  Calls Tryz.prog 90 #[.iface 182 (.agg #[zb h0,zb h1,zb h2,zb h3,za kd,za it,za sq,za st])] w fun e w'=> ∃g,e= .returned (.slice (some (zd g)) 64 64)∧zi w' w.heap.size 5 (.slice (some (zd g)) 64 64) (qJ h0 h1 h2 h3 kd it sq st)∧Chg 0 0 w w':=by
 obtain⟨a1,a2,a3,a4,a5,a6⟩:=h;have hN:=JK w h0 h1 h2 h3 kd it sq st a1 a2 a3 a4 a5 a6;have m1:=JF #[zb h0,zb h1,zb h2,zb h3,za kd,za it,za sq,za st];have m2:=QN #[zb h0,zb h1,zb h2,zb h3,za kd,za it,za sq,za st];have hi2:=pn2 (v:=it) (by omega) (by omega);have hq4:=pn4 (v:=sq) (by omega) a2;have ht2:=pn2 (v:=st) a5 (by omega);obtain⟨hc0,hc1⟩:=qp (jd h0 h1 h2 h3 kd it sq st);have hc4:=pn4 hc0 hc1;have hX:=fun w=>Q1 w h0 h1 h2 h3 kd it sq st hk0 hk1 (by omega) (by omega) (by omega) hi2 hq4 ht2 hc4 hB (by omega)
 have hY:=fun w=>jM w (qJ h0 h1 h2 h3 kd it sq st) (YA hi2 hq4 ht2 hc4);generalize qJ h0 h1 h2 h3 kd it sq st=es at*;clear hi2 hq4 ht2 hc0 hc1 hc4 hB;go_enter Tryz.func90,Tryz.ntmps90;go_wp2_with fail;refine hN.mono ?_;rintro e w1 ⟨rfl,h1'⟩;have HC:Hid (Chg 0 0 w w1):=h1';clear hN h1';go_wp2_with fail;refine(Zp w1).mono ?_;rintro e w2 ⟨rfl,h2'⟩;have HC2:Hid (Chg 0 0 w w2):=HC.out.trans h2';clear h2'
 go_wp2_with fail;refine(hX _).mono ?_;rintro e w3 ⟨rfl,h3'⟩;have HC3:Hid (Chg 0 0 w w3):=HC2.out.trans h3';clear h3';go_wp2_with fail;refine(hY _).mono ?_;rintro e w4 ⟨g,rfl,o4,h4'⟩;have HC4:Hid (Chg 0 0 w w4):=HC3.out.trans h4';have HO:Hid (zi w4 w.heap.size 5 (.slice (some (zd g)) 64 64) es):=o4.base (fun g hg=>by have:=(o4.lt g hg).1;have:=HC3.out.size;omega);clear h4' o4 hX hY;go_wp2;go_ret;exact⟨_,rfl,HO.out,HC4.out⟩
theorem Vf (w:World)(it st sq:Int)(h:OkS it sq st)(hB:Byt (jd 106 108 111 103 1 it sq st))
  (m0:w.cell? (zd 0)=some (zb 106)) (m1:w.cell? ⟨0,1,none⟩=some (zb 108)) (m2:w.cell? ⟨0,2,none⟩=some (zb 111)) (m3:w.cell? ⟨0,3,none⟩=some (zb 103)):
  Calls Tryz.prog 57 #[.agg #[za it,za st,za sq]] w fun e w'=> ∃g,e= .returned (.slice (some (zd g)) 64 64)∧zi w' w.heap.size 5 (.slice (some (zd g)) 64 64) (qJ 106 108 111 103 1 it sq st)∧Chg 0 0 w w':=by
 have C0:Chg 0 0 w (w.alloc (.cells #[za it,za st,za sq] 45)):=Chg.alloc (Chg.refl 0 0 w) _;have hN:=VC (w.alloc (.cells #[za it,za st,za sq] 45)) it st sq (C0.cell m0 (by omega)) (C0.cell m1 (by omega)) (C0.cell m2 (by omega)) (C0.cell m3 (by omega));have HC:Hid (Chg 0 0 w (w.alloc (.cells #[za it,za st,za sq] 45))):=C0;have hX:=fun w=>YH w 106 108 111 103 1 it sq st (by omega) (by omega) h hB;generalize qJ 106 108 111 103 1 it sq st=es at*
 clear C0 m0 m1 m2 m3 hB h;go_enter Tryz.func57,Tryz.ntmps57;go_wp2_with fail;generalize w.alloc (.cells #[za it,za st,za sq] 45)=w0 at*;refine hN.mono ?_;rintro e w1 ⟨rfl,h1'⟩;have HC1:Hid (Chg 0 0 w w1):=HC.out.trans h1';clear h1' hN;go_wp2_with fail;refine(hX _).mono ?_;rintro e w2 ⟨g,rfl,o2,h2'⟩;have HC2:Hid (Chg 0 0 w w2):=HC1.out.trans h2';have HO:Hid (zi w2 w.heap.size 5 (.slice (some (zd g)) 64 64) es):=o2.base (fun g hg=>by have:=(o2.lt g hg).1;have:=HC1.out.size;omega)
 clear hX o2 h2';go_wp2;go_ret;exact⟨_,rfl,HO.out,HC2.out⟩
theorem Qz {sz st sq hd us:Int}(h:zJ sz st sq hd us=true):OkS sz sq hd:=by
 unfold zJ at h;rw[Bool.and_eq_true,decide_eq_true_eq] at h;obtain⟨⟨a1,a2⟩,⟨a3,a4⟩,_,⟨a5,a6⟩,_⟩:=h.1;exact⟨a3,a4,a1,a2,by omega,a6⟩
theorem acA (it sq st:Int):Byt (jd 106 108 111 103 1 it sq st):=by
 intro x hx;unfold jd at hx;simp only[List.mem_append] at hx;rcases hx with(((hx|hx)|hx)|hx)|hx
 ·simp at hx;omega
 ·exact qh _ _ x hx
 ·exact qh _ _ x hx
 ·exact qh _ _ x hx
 ·rw[List.mem_replicate] at hx;omega
abbrev jC (es:List Int):List Opx:= [(1,1,es),(2,0,[])]
theorem NM (w:World)(base g cp:Nat)(es:List Int)(hb:base≤w.heap.size)(ho:zi w base 5 (.slice (some (zd g)) 64 cp) es):
  ∃cells dvs,zT (w.alloc (.cells #[za 1,za 1,.slice (some (zd g)) 64 cp,za 2,za 0,zc] 65)) base 65 5 (.slice (some (zd w.heap.size)) 2 2) (jC es) cells dvs:=by
 have hrow:=World.ownsRow_lit (base:=base) (e:=65) (size:=3) w #[za 1,za 1,.slice (some (zd g)) 64 cp,za 2,za 0,zc] 2 hb (by unfold maxLen;omega) rfl;have c1:Chg 0 0 w (w.alloc (.cells #[za 1,za 1,.slice (some (zd g)) 64 cp,za 2,za 0,zc] 65)):=Chg.alloc (Chg.refl 0 0 w) _;refine⟨[za 1,za 1,.slice (some (zd g)) 64 cp,za 2,za 0,zc],fun i=>if i=0 then .slice (some (zd g)) 64 cp else zc,?_,?_,?_,?_,?_,?_⟩
 ·simpa using hrow
 ·intro i hi;rcases i with _|_|i
  ·rfl
  ·rfl
  ·have hi2:i+1+1<2:=hi;omega
 ·intro i hi;rcases i with _|_|i
  ·rfl
  ·rfl
  ·have hi2:i+1+1<2:=hi;omega
 ·intro i hi;rcases i with _|_|i
  ·rfl
  ·rfl
  ·have hi2:i+1+1<2:=hi;omega
 ·intro i hi;rcases i with _|_|i
  ·exact ho.chg c1 (by intro g _;omega)
  ·exact⟨rfl,Or.inl ⟨rfl,rfl⟩⟩
  ·have hi2:i+1+1<2:=hi;omega
 ·intro i j g' hij hj;rcases j with _|_|j
  ·omega
  ·intro _ h;simp[Value.ownBlock] at h
  ·have hj2:j+1+1<2:=hj;omega
theorem Yz (w:World)(sz st sq hd us:Int)(hv:zJ sz st sq hd us=true)
  (m0:w.cell? (zd 0)=some (zb 106)) (m1:w.cell? ⟨0,1,none⟩=some (zb 108)) (m2:w.cell? ⟨0,2,none⟩=some (zb 111)) (m3:w.cell? ⟨0,3,none⟩=some (zb 103)):
  Calls Tryz.prog 25 #[.agg #[za sz,za st,za sq,za hd,za us]] w fun e w'=> ∃g,e= .returned (.slice (some (zd g)) 2 2)∧(∃cells dvs,zT w' w.heap.size 65 5 (.slice (some (zd g)) 2 2) (jC (qJ 106 108 111 103 1 sz sq hd)) cells dvs)∧Chg 0 0 w w':=by
 have C0:Chg 0 0 w (w.alloc (.cells #[za sz,za st,za sq,za hd,za us] 30)):=Chg.alloc (Chg.refl 0 0 w) _;have hN:=Vf (w.alloc (.cells #[za sz,za st,za sq,za hd,za us] 30)) sz hd sq (Qz hv) (acA _ _ _) (C0.cell m0 (by omega)) (C0.cell m1 (by omega)) (C0.cell m2 (by omega)) (C0.cell m3 (by omega));have HC:Hid (Chg 0 0 w (w.alloc (.cells #[za sz,za st,za sq,za hd,za us] 30))):=C0;clear C0 m0 m1 m2 m3 hv
 go_enter Tryz.func25,Tryz.ntmps25;go_wp2_with fail;generalize w.alloc (.cells #[za sz,za st,za sq,za hd,za us] 30)=w0 at*;refine hN.mono ?_;rintro e w1 ⟨g,rfl,o1,h1⟩;have HC1:Hid (Chg 0 0 w w1):=HC.out.trans h1;have s1:=HC1.out.size;have HO:Hid (zi w1 w.heap.size 5 (.slice (some (zd g)) 64 64) (qJ 106 108 111 103 1 sz sq hd)):=o1.base (fun g hg=>by have:=(o1.lt g hg).1;have:=HC.out.size;omega);have HX:Hid (∃cells dvs,zT (w1.alloc (.cells #[za 1,za 1,.slice (some (zd g)) 64 64,za 2,za 0,zc] 65)) w.heap.size 65 5 (.slice (some (zd w1.heap.size)) 2 2) (jC (qJ 106 108 111 103 1 sz sq hd)) cells dvs):=NM w1 w.heap.size g 64 _ s1 HO.out
 have HC2:Hid (Chg 0 0 w (w1.alloc (.cells #[za 1,za 1,.slice (some (zd g)) 64 64,za 2,za 0,zc] 65))):=HC1.out.alloc _;clear hN o1 h1;go_wp2;go_ret;exact⟨_,rfl,HX.out,HC2.out⟩
theorem aal {sz sq hd:Int}(h:OkS sz sq hd):(qJ 106 108 111 103 1 sz sq hd).length=64:=by
 obtain⟨a1,a2,a3,a4,a5,a6⟩:=h;obtain⟨hc0,hc1⟩:=qp (jd 106 108 111 103 1 sz sq hd);exact YA (pn2 (by omega) (by omega)) (pn4 (by omega) a2) (pn2 a5 (by omega)) (pn4 hc0 hc1)
theorem Tryz.infoOp:(Tryz.prog.info? 65).map (fun i=>(i.zero,i.size,i.bytes))=some (some (.agg #[za 0,za 0,zc]),3,40):=by kernel_rfl
theorem zT.base {w:World}{base base':Nat}{eO eB:TypeId}{v:Value}{os:List Opx}{cells:List Value}{dvs:Nat→Value}(h:zT w base eO eB v os cells dvs)(hb:base'≤base):zT w base' eO eB v os cells dvs:=by
 refine⟨?_,h.at0,h.at1,h.at2,fun i hi=>(h.data i hi).base (fun g hg=>Nat.le_trans hb ((h.data i hi).lt g hg).1),h.apart⟩;obtain⟨h1,h2⟩:=h.row;refine⟨h1,?_⟩;rcases h2 with h2|⟨g,cap,cur,hv,hg,r⟩
 ·exact Or.inl h2
 ·exact Or.inr ⟨g,cap,cur,hv,by omega,r⟩
theorem zT.join {w w':World}{base base2:Nat}{eO eB:TypeId}{v v2 v':Value}{os ts:List Opx}{cells cells2:List Value}{dvs dvs2:Nat→Value}(h:zT w base eO eB v os cells dvs)(h2:zT w base2 eO eB v2 ts cells2 dvs2)
  (hrow:w'.ownsRow base eO 3 v' (os.length+ts.length) (cells++cells2)) (hd: ∀i,i<os.length→zi w' base eB (dvs i) (os.getD i Opx.zero).2.2) (hd2: ∀i,i<ts.length→zi w' base eB (dvs2 i) (ts.getD i Opx.zero).2.2)
  (hfr: ∀i j g,i<os.length→j<ts.length→(dvs i).ownBlock=some g→(dvs2 j).ownBlock≠some g):
  zT w' base eO eB v' (os++ts) (cells++cells2) (fun i=>if i<os.length then dvs i else dvs2 (i-os.length)):=by
 have hl:cells.length=os.length*3:=h.row.1;have hg1: ∀i,i<os.length→(os++ts).getD i Opx.zero=os.getD i Opx.zero:=fun i e=>by rw[List.getD_eq_getElem?_getD,List.getD_eq_getElem?_getD,List.getElem?_append_left e]
 have hg2: ∀i,¬i<os.length→(os++ts).getD i Opx.zero=ts.getD (i-os.length) Opx.zero:=fun i e=>by rw[List.getD_eq_getElem?_getD,List.getD_eq_getElem?_getD,List.getElem?_append_right (by omega)]
 refine⟨by rw[List.length_append];exact hrow,?_,?_,?_,?_,?_⟩
 ·intro i hi;rw[List.length_append] at hi;by_cases e:i<os.length
  ·rw[List.getElem?_append_left (by omega),h.at0 i e,hg1 i e]
  ·rw[List.getElem?_append_right (by omega),hl,hg2 i e,show i*3-os.length*3=(i-os.length)*3 by omega,h2.at0 _ (by omega)]
 ·intro i hi;rw[List.length_append] at hi;by_cases e:i<os.length
  ·rw[List.getElem?_append_left (by omega),h.at1 i e,hg1 i e]
  ·rw[List.getElem?_append_right (by omega),hl,hg2 i e,show i*3+1-os.length*3=(i-os.length)*3+1 by omega,h2.at1 _ (by omega)]
 ·intro i hi;rw[List.length_append] at hi;by_cases e:i<os.length
  ·rw[List.getElem?_append_left (by omega),h.at2 i e,if_pos e]
  ·rw[List.getElem?_append_right (by omega),hl,if_neg e,show i*3+2-os.length*3=(i-os.length)*3+2 by omega,h2.at2 _ (by omega)]
 ·intro i hi;rw[List.length_append] at hi;by_cases e:i<os.length
  ·show zi w' base eB (if i<os.length then dvs i else dvs2 (i-os.length)) _;rw[if_pos e,hg1 i e];exact hd i e
  ·show zi w' base eB (if i<os.length then dvs i else dvs2 (i-os.length)) _;rw[if_neg e,hg2 i e];exact hd2 _ (by omega)
 ·intro i j g hij hj;rw[List.length_append] at hj;by_cases e:i<os.length
  ·rw[if_pos e];by_cases e':j<os.length
   ·rw[if_pos e'];exact h.apart i j g hij e'
   ·rw[if_neg e'];exact hfr i _ g e (by omega)
  ·rw[if_neg e,if_neg (by omega)];exact h2.apart _ _ g (by omega) (by omega)
theorem VT (A:Array Value)(hr:A.size=3)(a b c:Value):Instr.fill (fun i=>some (i*3,3)) A [(0,.agg #[a,b,c])]=some #[a,b,c]:=by
 obtain⟨l⟩:=A
 match l,hr with
 | [x,y,z],_=>simp[Instr.fill,Value.cells]
theorem j5 (w:World)(base:Nat)(q adr:Int)(dv:Value)(ys:List Int)(hb:base≤w.heap.size)(ho:zi w base 5 dv ys):
  zT (w.alloc (.cells #[za q,za adr,dv] 65)) base 65 5 (.slice (some (zd w.heap.size)) 1 1) [(q,adr,ys)] [za q,za adr,dv] (fun _=>dv):=by
 have hrow:=World.ownsRow_lit (base:=base) (e:=65) (size:=3) w #[za q,za adr,dv] 1 hb (by unfold maxLen;omega) rfl;have c1:Chg 0 0 w (w.alloc (.cells #[za q,za adr,dv] 65)):=Chg.alloc (Chg.refl 0 0 w) _;have h1: ∀i,i<1→i=0:=fun i h=>by omega
 refine⟨by simpa using hrow,?_,?_,?_,?_,?_⟩
 ·intro i hi;obtain rfl:=h1 i hi;rfl
 ·intro i hi;obtain rfl:=h1 i hi;rfl
 ·intro i hi;obtain rfl:=h1 i hi;rfl
 ·intro i hi;obtain rfl:=h1 i hi;exact ho.chg c1 (by intro g _;omega)
 ·intro i j g hij hj;have:=h1 j hj;omega
theorem aaw {P:Program}(w:World)(base:Nat)(t ty e:TypeId)(i:TypeInfo)(z:Value)(size bytes:Nat)(ht:P.underlying t=some (.slice e))(hi:P.info? e=some i)(hz:i.zero=some z)
  (hsize:i.size=size) (hby:i.bytes=bytes) (hzs:z.cells.size=size) (hsz:0<size)
  (v:Value) (n:Nat) (xs:List Value) (hown:w.ownsRow base e size v n xs)
  (a:Addr) (m c:Nat) (news:List Value) (hl:news.length=m*size) (hnews: ∀j u,news[j]?=some u→w.cell? (a.add j)=some u) (h1: ∀u∈news,u.oneCell'=true)
  (h63:n+m≤maxLen) (hbytes:(n+m)*bytes≤140737488355328) (hbase:base≤w.heap.size) (hm:0<m):
  ∃v' w',(Builtin.append_ #[t,t] ty #[v,.slice (some a) m c]).run P w= .ok v' w'∧w'.ownsRow base e size v' (n+m) (xs++news)∧w.grownBy w' v.ownBlock∧(∀g,v'.ownBlock=some g→v.ownBlock=some g∨w.heap.size≤g):=by
 obtain⟨v',w',hr,h2,h3,_⟩:=run_append_own (P:=P) w base t ty e i z size bytes ht hi hz hsize hby hzs hsz v n xs hown a m c news hl hnews h1 h63 hbytes hbase;refine⟨v',w',hr,h2,h3,?_⟩;have hsmall:n+m≤9223372036854775807:=by simp only[maxLen] at h63;omega
 rcases hown.2 with⟨hv,hn⟩|⟨g,cap,cur,hv,hbg,hg,hnc,hcm,hcs,htake⟩
 ·subst hsize;subst hby;subst hv;subst hn;rw[run_append_nil (P:=P) w t ty e i z ht hi hz a m c news hl hnews (by omega) (by omega) (by have hb:=hbytes;simp only[Nat.zero_add] at hb;omega)] at hr;injection hr with e1 e2;subst e1;intro g hg;simp[Value.ownBlock] at hg;exact Or.inr (by omega)
 ·subst hv;by_cases hroom:n+m≤cap
  ·obtain⟨w2,hr2,_,_⟩:=run_append_own_spare (P:=P) w base t ty e i size ht hi hsize g n cap xs hown a m c news hl hnews h1 hroom;rw[hr2] at hr;injection hr with e1 e2;subst e1;exact fun g' hg'=>Or.inl hg'
  ·subst hsize;subst hby;have holds: ∀j u,xs[j]?=some u→w.cell? (((zd g):Addr).add j)=some u:=hown.cells (g:=g) rfl;rw[run_append_grow (P:=P) w t ty e i z ht hi hz (zd g) n cap xs hown.1 holds a m c news hl hnews (by omega) (by omega) (growslice_fits (by omega) hbytes)] at hr;injection hr with e1 e2;subst e1;intro g' hg';simp[Value.ownBlock] at hg';exact Or.inr (by omega)
theorem jj {o:Oper}{a:Act}{w:World}{K:Act→World→Prop}{Q:Exit→Act→World→Prop}(s x:Operand)
  (ho:o.op= .call {callee:= .builtin .append,args:= #[s,x],argTypes:= #[39,39]}) (base N:Nat) (v xv:Value) (os ts:List Opx) (cells cells2:List Value) (dvs dvs2:Nat→Value)
  (hs:a.eval s=v) (hown:zT w base 65 5 v os cells dvs) (hx:a.eval x=xv) (hxo:zT w N 65 5 xv ts cells2 dvs2) (hN:base≤N) (hbase:base≤w.heap.size)
  (h0:0<ts.length) (hk:os.length+ts.length≤2097152)
  (hfr: ∀i j g,i<os.length→j<ts.length→(dvs i).ownBlock=some g→(dvs2 j).ownBlock≠some g)
  (h: ∀v' w',(∃g cap,v'= .slice (some (zd g)) (os.length+ts.length) cap)→zT w' base 65 5 v' (os++ts) (cells++cells2) (fun i=>if i<os.length then dvs i else dvs2 (i-os.length))→w.grownBy w' v.ownBlock→
   (∀g,v'.ownBlock=some g→v.ownBlock=some g∨w.heap.size≤g)→K (a.put o.dst v') w'):o.wp Tryz.prog a w K Q:=by
 obtain⟨i,hi,hz0,hz1,hz2⟩:=info_parts Tryz.infoOp;have hxr:=hxo.row;obtain⟨g2,c2,rfl⟩: ∃g2 c2,xv= .slice (some (zd g2)) ts.length c2:=by
  rcases hxr.2 with⟨_,h'⟩|⟨g2,c2,_,e,_⟩
  ·omega
  ·exact⟨g2,c2,e⟩
 have hl2:cells2.length=ts.length*3:=hxr.1;have hsrc: ∀j u,cells2[j]?=some u→w.cell? (((zd g2):Addr).add j)=some u:=by
  intro j u hj;have hjl:j<cells2.length:=(List.getElem?_eq_some_iff.1 hj).1;rw[Addr.add_mid,Nat.zero_add,World.ownsRow.cellAt hxr j (by omega)];exact hj
 have hone: ∀u∈cells2,u.oneCell'=true:=by
  intro u hu;obtain⟨j,hj,rfl⟩:=List.mem_iff_getElem.1 hu;have hd:j/3<ts.length:=by omega
  have hm:j % 3=0∨j % 3=1∨j % 3=2:=by omega
  have hq:cells2[j]?=some cells2[j]:=List.getElem?_eq_getElem hj;rcases hm with hm|hm|hm
  ·have:=hxo.at0 (j/3) hd;rw[show j/3*3=j by omega,hq] at this;rw[Option.some.inj this];rfl
  ·have:=hxo.at1 (j/3) hd;rw[show j/3*3+1=j by omega,hq] at this;rw[Option.some.inj this];rfl
  ·have:=hxo.at2 (j/3) hd;rw[show j/3*3+2=j by omega,hq] at this;rw[Option.some.inj this];rcases(hxo.data (j/3) hd).2 with⟨e,_⟩|⟨_,_,_,e,_⟩<;>rw[e]<;>rfl
 obtain⟨v',w',hr,h1,h2,h3⟩:=aaw (P:=Tryz.prog) w base 39 o.type 65 i _ 3 40 Tryz.underlying39 hi hz0 hz1 hz2 rfl (by omega) v os.length _ hown.row (zd g2) ts.length c2 cells2 hl2 hsrc hone (by unfold maxLen;omega) (by omega) hbase h0;have K8: ∀j,j<w.heap.size→v.ownBlock≠some j→w'.heap[j]?=w.heap[j]?:=fun j hj hne'=>h2.block j hj (fun e=>hne' e.symm);have hpE: ∀j,v.ownBlock=some j→ ∃cur,w.heap[j]?=some (.cells cur 65 (0,0)):=fun j hj=>zw hown.row hj
 have hS: ∀ {N':Nat} {u:Value} {ys:List Int},zi w N' 5 u ys→zi w' N' 5 u ys:=fun hu=>hu.same (fun j hj=>K8 j (hu.lt j hj).2 (fun e=>by obtain⟨cur,hcur⟩:=hpE _ e;obtain⟨cur',hcur'⟩:=hu.elem hj;exact zR hcur hcur' (by decide) rfl));have hfin:=h v' w' (by
  rcases h1.2 with⟨_,h0'⟩|⟨g',cap',cur,e',_⟩
  ·omega
  ·exact⟨g',cap',e'⟩) (hown.join hxo h1 (fun i hi=>hS (hown.data i hi)) (fun i hi=>(hS (hxo.data i hi)).base (fun g hg=>Nat.le_trans hN ((hxo.data i hi).lt g hg).1)) hfr) h2 h3
 unfold Oper.wp execOp;simp only[ho,resolve,invoke,builtin,Sem.run_bind,Sem.run_pure,Result.andThen_ok,List.map_toArray,List.map_cons,List.map_nil,hs,hx,hr];exact hfin
theorem zr.part {w:World}{lo hi b off cap l n:Nat}{k:IntKind}{xs:List Int}(h:zr w lo hi k (.slice (some ⟨b,off,none⟩) xs.length cap) xs)(hl:l+n≤xs.length)(hn:0<n)(c:Nat)(hc:n≤c):
  zr w lo hi k (.slice (some ⟨b,off+l,none⟩) n c) ((xs.drop l).take n):=by
 have hlen:((xs.drop l).take n).length=n:=by rw[List.length_take,List.length_drop];omega
 obtain⟨ao,cap',e,h0,_,h1⟩:=h;simp only[Value.slice.injEq] at e;obtain⟨e1,_,_⟩:=e;rcases h1 with h1|⟨b',off',e2,h2,h3,h4⟩
 ·rw[h1] at hl;simp at hl;omega
 ·rw[←e1] at e2
  cases e2
  refine⟨_,c,by rw[hlen],by rw[hlen];omega,⟨by rw[hlen];exact hc,by simp⟩,Or.inr ⟨b,off+l,rfl,h2,h3,fun i hi=>?_⟩⟩;rw[hlen] at hi;rw[Nat.add_assoc,h4 (l+i) (by omega)];simp only[List.getD_eq_getElem?_getD,List.getElem?_take,List.getElem?_drop];rw[if_pos hi]
theorem Zq {N:Nat}{nv:Value}{os:List Opx}{dvs:Nat→Value}(hN: ∀i g,i<os.length→(dvs i).ownBlock=some g→g<N)(hy: ∀g,nv.ownBlock=some g→N≤g):
  ∀(i j:Nat) (g:Nat),i<os.length→j<1→(dvs i).ownBlock=some g→nv.ownBlock≠some g:=fun i j g hi _ hg e=>by have:=hN i g hi hg;have:=hy g e;omega
def zC (sz st sq hd:Int):List Opx:=if st=0 then jC (qJ 106 108 111 103 1 sz sq hd) else []
def QS (sz hd:Int) (tl:List (List Int)) (k:Nat):List Opx:=(List.range k).map fun(i:Nat)=>(1,1+qk sz hd (i:Int),tl.getD i [])
def JS (sz st sq hd us:Int) (t:Tx):List Opx:=if jt sz st sq hd us t=true then zC sz st sq hd++QS sz hd (TL t) (TL t).length++ [(2,0,[])] else []
theorem Z9 (sz hd:Int)(tl:List (List Int))(k:Nat):(QS sz hd tl k).length=k:=by unfold QS;simp
theorem UD {sz hd n:Int}(h:16≤sz):1≤qk sz hd n∧qk sz hd n≤sz:=by
 have hm:=Int.emod_nonneg (hd-1+n) (b:=sz) (by omega);have hm2:=Int.emod_lt_of_pos (hd-1+n) (b:=sz) (by omega);unfold qk;omega
theorem adZ {b g n c:Nat}(h:(Value.slice (some (zd b)) n c).ownBlock=some g):b=g:=by cases h;rfl
def ZI (sz st sq hd us:Int):List Opx:=if zJ sz st sq hd us=true∧us≠0 then jC (qJ 106 108 111 103 1 sz sq hd) else []
theorem zT.none (w:World)(base:Nat)(eO eB:TypeId):zT w base eO eB (.slice .none 0 0) [] [] (fun _=> .slice .none 0 0):=
 ⟨⟨rfl,Or.inl ⟨rfl,rfl⟩⟩,fun i h=>absurd h (Nat.not_lt_zero i),fun i h=>absurd h (Nat.not_lt_zero i),fun i h=>absurd h (Nat.not_lt_zero i),fun i h=>absurd h (Nat.not_lt_zero i),fun _ j _ _ h=>absurd h (Nat.not_lt_zero j)⟩
theorem Kn (w:World)(sz st sq hd us:Int)
  (m0:w.cell? (zd 0)=some (zb 106)) (m1:w.cell? ⟨0,1,none⟩=some (zb 108)) (m2:w.cell? ⟨0,2,none⟩=some (zb 111)) (m3:w.cell? ⟨0,3,none⟩=some (zb 103)):
  Calls Tryz.prog 10 #[.agg #[za sz,za st,za sq,za hd,za us]] w fun e w'=> ∃v,e= .returned v∧(∃cells dvs,zT w' w.heap.size 65 5 v (ZI sz st sq hd us) cells dvs)∧Chg 0 0 w w':=by
 have C0:Chg 0 0 w (w.alloc (.cells #[za sz,za st,za sq,za hd,za us] 30)):=Chg.alloc (Chg.refl 0 0 w) _;have B0:=zh w (.cells #[za sz,za st,za sq,za hd,za us] 30);have s0:(w.alloc (.cells #[za sz,za st,za sq,za hd,za us] 30)).heap.size=w.heap.size+1:=by simp
 have HM:Hid (w.cell? (zd 0)=some (zb 106)∧w.cell? ⟨0,1,none⟩=some (zb 108)∧w.cell? ⟨0,2,none⟩=some (zb 111)∧w.cell? ⟨0,3,none⟩=some (zb 103)):=⟨m0,m1,m2,m3⟩;have HC:Hid (Chg 0 0 w (w.alloc (.cells #[za sz,za st,za sq,za hd,za us] 30))):=C0;have HB:Hid ((w.alloc (.cells #[za sz,za st,za sq,za hd,za us] 30)).heap[w.heap.size]?=some (.cells #[za sz,za st,za sq,za hd,za us] 30 (0,0))):=B0;clear C0 B0 m0 m1 m2 m3
 go_enter Tryz.func10,Tryz.ntmps10;go_wp2_with fail;generalize w.alloc (.cells #[za sz,za st,za sq,za hd,za us] 30)=w0 at*;refine(jn _ sz st sq hd us).mono ?_;rintro e w1 ⟨rfl,h1⟩;have HC1:Hid (Chg 0 0 w w1):=HC.out.trans h1;have HB1:Hid (w1.heap[w.heap.size]?=some (.cells #[za sz,za st,za sq,za hd,za us] 30 (0,0))):=(h1.block _ (by omega) (by omega)).trans HB.out;obtain⟨k0,k1,k2,k3,k4⟩:=ZX HB1.out
 have s1:=h1.size;clear h1;by_cases hv:zJ sz st sq hd us=true
 case neg=>
  have Ht:Hid (ZI sz st sq hd us= []):=by show _=_;unfold ZI;rw[if_neg (fun h=>hv h.1)]
  rw[Bool.not_eq_true] at hv;rw[hv];clear hv;go_wp2;go_ret;exact⟨_,rfl,by rw[Ht.out];exact⟨_,_,zT.none _ _ _ _⟩,HC1.out⟩
 by_cases hu:us=0
 ·subst hu;have Ht:Hid (ZI sz st sq hd 0= []):=by show _=_;unfold ZI;rw[if_neg (fun h=>h.2 rfl)]
  rw[hv];clear hv;go_wp2;go_ret;exact⟨_,rfl,by rw[Ht.out];exact⟨_,_,zT.none _ _ _ _⟩,HC1.out⟩
 have Ht:Hid (ZI sz st sq hd us=jC (qJ 106 108 111 103 1 sz sq hd)):=by show _=_;unfold ZI;rw[if_pos ⟨hv,hu⟩]
 have hN:=Yz w1 sz st sq hd us hv (HC1.out.cell HM.out.1 (by omega)) (HC1.out.cell HM.out.2.1 (by omega)) (HC1.out.cell HM.out.2.2.1 (by omega)) (HC1.out.cell HM.out.2.2.2 (by omega));have hue:(us==0)=false:=by simpa using hu
 rw[hv];clear hv hu;go_wp2_with fail;refine hN.mono ?_;rintro e w2 ⟨g,rfl,⟨cells,dvs,ho⟩,h2⟩;have HC2:Hid (Chg 0 0 w w2):=HC1.out.trans h2;have HO:Hid (zT w2 w1.heap.size 65 5 (.slice (some (zd g)) 2 2) (jC (qJ 106 108 111 103 1 sz sq hd)) cells dvs):=ho;have HX:Hid (zT w2 w.heap.size 65 5 (.slice (some (zd g)) 2 2) (jC (qJ 106 108 111 103 1 sz sq hd)) cells dvs):=by
  have:=HC1.out.size;refine⟨?_,ho.at0,ho.at1,ho.at2,fun i hi=>(ho.data i hi).base (fun g hg=>by have:=((ho.data i hi).lt g hg).1;omega),ho.apart⟩;obtain⟨r1,r2⟩:=ho.row;refine⟨r1,?_⟩;rcases r2 with r2|⟨g',cap,cur,e,hg,r⟩
  ·exact Or.inl r2
  ·exact Or.inr ⟨g',cap,cur,e,by omega,r⟩
 clear hN ho h2;go_wp2;go_ret;exact⟨_,rfl,by rw[Ht.out];exact⟨_,_,HX.out⟩,HC2.out⟩
theorem NE (ws:List Wr): ∀(d:Dsk),d.pend.length+ws.length≤600→(∀p∈ws,0≤p.1∧p.1<((d.dur.length/64:Nat):Int)∧p.2.length=64)→
  Zc d (ws.map fun p=>((1,p.1,p.2):Opx))=some ⟨d.dur,d.pend++ws⟩:=by
 induction ws with
 |nil=>intro d _ _;simp[Zc]
 |cons p r ih=>
  intro d hl h;have hp:=h p (by simp);rw[List.map_cons];simp only[Zc];have e:opD d (1,p.1,p.2)=some ⟨d.dur,d.pend++ [(p.1,p.2)]⟩:=by
   unfold opD;rw[if_pos rfl,if_pos ⟨by rw[List.length_cons] at hl;omega,hp⟩]
  rw[e];show Zc ⟨d.dur,d.pend++ [(p.1,p.2)]⟩ _=_;rw[ih ⟨d.dur,d.pend++ [(p.1,p.2)]⟩ (by rw[List.length_append];simp at hl⊢;omega) (fun q hq=>h q (by simp[hq]))];simp
theorem Yx {d:Dsk}(hv:qV d)(hp:d.pend= [])(ws:List Wr)(hl:ws.length≤600)(h: ∀p∈ws,0≤p.1∧p.1<((d.dur.length/64:Nat):Int)∧p.2.length=64):
  ∃d',Zc d ((ws.map fun p=>((1,p.1,p.2):Opx))++ [(2,0,[])])=some d'∧d'.pend= []∧d'.dur.length=d.dur.length∧qV d'∧ ∀b:Nat,blk d'.dur b=ZA ws (b:Int) (blk d.dur b):=by
 have h1:=NE ws d (by rw[hp];simpa using hl) h;rw[hp,List.nil_append] at h1;have hv1:qV ⟨d.dur,ws⟩:=ND h1 hv;refine⟨setD (fun _=>true) ⟨d.dur,ws⟩,?_,rfl,Zs _ _ hv1 _ (Nat.le_refl _),J2 _ hv1,fun b=>?_⟩
 ·rw[Qa,h1];rfl
 ·have h2:=NY (fun _=>true) ⟨d.dur,ws⟩ hv1 b ws.length (Nat.le_refl _);have h3:=aai ws b (blk d.dur b) ws.length (Nat.le_refl _);rw[List.take_length] at h3;exact h2.trans h3.symm
structure jJ (d:Dsk)(n sz:Nat)(F:Nat→FB)(st sq:Int):Prop where
 dur:d.dur.length=64*n
 pend:d.pend= []
 big:n≤2048∧sz+2≤n∧16≤sz∧sz≤512
 sb:(0≤st∧st≤sz)∧1≤sq∧sq≤4294967295
 sup:blk d.dur 1=qJ 106 108 111 103 1 sz sq st
 ok: ∀i,i<sz→(F i).ok
 at': ∀i,i<sz→blk d.dur (2+i)=(F i).bs
theorem jJ.valid {d:Dsk}{n sz:Nat}{F:Nat→FB}{st sq:Int}(h:jJ d n sz F st sq):qV d:=by
 obtain⟨h1,h2,⟨h3,h4,h5,h6⟩,_,_,_,_⟩:=h;refine⟨by omega,by omega,by omega,by rw[h2];simp,fun i hi=>?_⟩;rw[h2] at hi;simp at hi
theorem aam {sz sq st:Int}(h1:0≤sz∧sz≤512)(h2:1≤sq∧sq≤4294967295)(h3:0≤st∧st≤512):(qJ 106 108 111 103 1 sz sq st).length=64:=by
 unfold qJ;obtain⟨c0,c1⟩:=qp (jd 106 108 111 103 1 sz sq st);rw[List.length_append,j6 (pn2 (by omega) (by omega)) (pn4 (by omega) h2.2) (pn2 (by omega) (by omega)),pn4 c0 c1]
theorem Kx {d:Dsk}{n sz:Nat}{F:Nat→FB}{st sq st' sq':Int}(h:jJ d n sz F st sq)(h1:0≤st'∧st'≤sz)(h2:1≤sq'∧sq'≤4294967295):
  ∃d',Zc d (jC (qJ 106 108 111 103 1 sz sq' st'))=some d'∧jJ d' n sz F st' sq':=by
 have hb:=h.big;obtain⟨d',e1,e2,e3,e4,e5⟩:=Yx h.valid h.pend [(1,qJ 106 108 111 103 1 sz sq' st')] (by simp) (fun p hp=>by
  obtain rfl:=List.mem_singleton.1 hp;refine⟨by simp,?_,aam ⟨by omega,by omega⟩ h2 ⟨h1.1,by omega⟩⟩;rw[h.dur];show(1:Int)<_;omega)
 refine⟨d',e1,e3.trans h.dur,e2,hb,⟨h1,h2⟩,?_,h.ok,fun i hi=>?_⟩
 ·rw[e5 1];simp[ZA]
 ·rw[e5 (2+i),Z1 _ _ _ (fun j hj=>?_)]
  ·exact h.at' i hi
  ·simp only[List.length_singleton] at hj;obtain rfl:j=0:=by omega
   show(1:Int)≠((2+i:Nat):Int);omega
def win (F:Nat→FB) (sz p k:Nat):List FB:=(List.range k).map fun i=>F ((p+i) % sz)
theorem QL (F:Nat→FB)(sz p k:Nat):(win F sz p k).length=k:=by simp[win]
theorem UP (F:Nat→FB)(sz p k m:Nat):win F sz p (k+m)=win F sz p k++win F sz (p+k) m:=by
 unfold win;rw[List.range_add,List.map_append,List.map_map];congr 1;apply List.map_congr_left;intro i _;simp[Nat.add_assoc]
theorem adj (F:Nat→FB)(sz p k:Nat):win F sz (p % sz) k=win F sz p k:=by
 unfold win;apply List.map_congr_left;intro i _;rw[Nat.mod_add_mod]
theorem aaq {F:Nat→FB}{sz p k:Nat}(hs:0<sz){x:FB}(h:x∈win F sz p k): ∃i,i<sz∧x=F i:=by
 unfold win at h;obtain⟨i,_,rfl⟩:=List.mem_map.1 h;exact⟨_,Nat.mod_lt _ hs,rfl⟩
theorem acI (F:Nat→FB)(sz p k m:Nat)(h:m≤k):(win F sz p k).drop m=win F sz (p+m) (k-m):=by
 have:=UP F sz p m (k-m);rw[show m+(k-m)=k by omega] at this;rw[this,List.drop_left' (QL _ _ _ _)]
def gap (sz p i:Nat):Nat:=(i+sz-p % sz) % sz
theorem Uu {sz p j:Nat}(hs:0<sz)(hj:j<sz):gap sz p ((p+j) % sz)=j:=by
 unfold gap;have hp:=Nat.mod_lt p hs;have e:(p+j) % sz=if p % sz+j<sz then p % sz+j else p % sz+j-sz:=by
  rw[Nat.add_mod,Nat.mod_eq_of_lt hj];split
  ·exact Nat.mod_eq_of_lt (by assumption)
  ·rw[Nat.mod_eq_sub_mod (by omega),Nat.mod_eq_of_lt (by omega)]
 rw[e];split
 ·rw[show p % sz+j+sz-p % sz=j+sz by omega,Nat.add_mod_right,Nat.mod_eq_of_lt hj]
 ·rw[show p % sz+j-sz+sz-p % sz=j by omega,Nat.mod_eq_of_lt hj]
theorem adD {sz p i:Nat}(hi:i<sz):(p+gap sz p i) % sz=i:=by
 unfold gap;have hs:0<sz:=by omega
 have hp:=Nat.mod_lt p hs;rw[Nat.add_mod_mod,Nat.add_mod];have e:(i+sz-p % sz) % sz=if p % sz≤i then i-p % sz else i+sz-p % sz:=by
  split
  ·rw[show i+sz-p % sz=(i-p % sz)+sz by omega,Nat.add_mod_right,Nat.mod_eq_of_lt (by omega)]
  ·exact Nat.mod_eq_of_lt (by omega)
 rw[e];split
 ·rw[show p % sz+(i-p % sz)=i by omega,Nat.mod_eq_of_lt hi]
 ·rw[show p % sz+(i+sz-p % sz)=i+sz by omega,Nat.add_mod_right,Nat.mod_eq_of_lt hi]
theorem adG {sz p i:Nat}(hs:0<sz):gap sz p i<sz:=Nat.mod_lt _ hs
def QC (F:Nat→FB) (sz p:Nat) (xs:List FB) (i:Nat):FB:=if gap sz p i<xs.length then xs.getD (gap sz p i) (.raw []) else F i
theorem ac3 {F:Nat→FB}{sz p:Nat}{xs:List FB}(hs:0<sz){j:Nat}(hj:j<xs.length)(hl:xs.length≤sz):QC F sz p xs ((p+j) % sz)=xs.getD j (.raw []):=by
 unfold QC;rw[Uu hs (by omega),if_pos hj]
theorem ac4 {F:Nat→FB}{sz p:Nat}{xs:List FB}(hF: ∀i,i<sz→(F i).ok)(hx: ∀x∈xs,x.ok): ∀i,i<sz→(QC F sz p xs i).ok:=by
 intro i hi;unfold QC;split
 ·rename_i h;refine hx _ ?_;rw[List.getD_eq_getElem?_getD,List.getElem?_eq_getElem h];exact List.getElem_mem h
 ·exact hF i hi
theorem ach {F:Nat→FB}{sz p:Nat}{xs:List FB}(i:Nat):QC F sz p xs i∈xs∨QC F sz p xs i=F i:=by
 unfold QC;split
 ·rename_i h;left;rw[List.getD_eq_getElem?_getD,List.getElem?_eq_getElem h];exact List.getElem_mem h
 ·right;rfl
theorem EI {F:Nat→FB}{sz p:Nat}{xs:List FB}(hs:0<sz)(hl:xs.length≤sz):win (QC F sz p xs) sz p xs.length=xs:=by
 unfold win;apply List.ext_getElem
 ·simp
 ·intro i h1 h2;simp only[List.getElem_map,List.getElem_range];rw[ac3 hs h2 hl,List.getD_eq_getElem?_getD,List.getElem?_eq_getElem h2];rfl
theorem abm {F:Nat→FB}{sz p k:Nat}{xs:List FB}(hs:0<sz)(hl:k+xs.length≤sz):win (QC F sz (p+k) xs) sz p k=win F sz p k:=by
 unfold win;apply List.map_congr_left;intro i hi;have hi:=List.mem_range.1 hi;unfold QC;rw[if_neg];have e:(p+i) % sz=(p+k+(sz-k+i)) % sz:=by
  rw[show p+k+(sz-k+i)=p+i+sz by omega,Nat.add_mod_right]
 by_cases h0:xs.length=0
 ·rw[h0];omega
 ·rw[e,Uu hs (by omega)];omega
theorem Ng {d:Dsk}{n sz:Nat}{F:Nat→FB}{st sq:Int}(h:jJ d n sz F st sq)(p:Nat)(xs:List FB)(hl:xs.length≤sz)(hx: ∀x∈xs,x.ok):
  ∃d',Zc d (QS sz ((p:Int)+1) (xs.map FB.bs) xs.length++ [(2,0,[])])=some d'∧jJ d' n sz (QC F sz p xs) st sq:=by
 have hb:=h.big;have hs:0<sz:=by omega
 obtain⟨ws,hws⟩: ∃ws:List Wr,ws=(List.range xs.length).map fun i=>((((2+(p+i) % sz:Nat):Int)),(xs.map FB.bs).getD i []):=⟨_,rfl⟩;have hwl:ws.length=xs.length:=by rw[hws];simp
 have hge: ∀i,i<xs.length→(xs.map FB.bs).getD i []=(xs.getD i (.raw [])).bs:=fun i hi=>by simp[List.getD_eq_getElem?_getD,hi]
 have hmm: ∀i,i<xs.length→(xs.getD i (.raw []))∈xs:=fun i hi=>by rw[List.getD_eq_getElem?_getD,List.getElem?_eq_getElem hi];exact List.getElem_mem hi
 have hat: ∀i,i<xs.length→ws.getD i (0,[])=((((2+(p+i) % sz:Nat):Int)),(xs.map FB.bs).getD i []):=fun i hi=>by rw[hws];simp[List.getD_eq_getElem?_getD,hi]
 have eput:QS sz ((p:Int)+1) (xs.map FB.bs) xs.length=ws.map fun p=>((1,p.1,p.2):Opx):=by
  unfold QS;rw[hws,List.map_map];apply List.map_congr_left;intro i _;simp only[Function.comp];congr 2;unfold qk;have e:((p:Int)+1-1+(i:Int)) % (sz:Int)=(((p+i) % sz:Nat):Int):=by
   rw[show(p:Int)+1-1+(i:Int)=((p+i:Nat):Int) by omega];rfl
  rw[e];omega
 obtain⟨d',e1,e2,e3,e4,e5⟩:=Yx h.valid h.pend ws (by rw[hwl];omega) (fun q hq=>by
  rw[hws] at hq;obtain⟨i,hi,rfl⟩:=List.mem_map.1 hq;have hi:=List.mem_range.1 hi;have hm:=Nat.mod_lt (p+i) hs;refine⟨by simp only;omega,?_,?_⟩
  ·rw[h.dur];simp only;omega
  ·simp only;rw[hge i hi];exact FB.len (hx _ (hmm i hi)))
 rw[eput];refine⟨d',e1,e3.trans h.dur,e2,hb,h.sb,?_,ac4 h.ok hx,fun i hi=>?_⟩
 ·rw[e5 1,Z1 _ _ _ (fun j hj=>?_)]
  ·exact h.sup
  ·rw[hwl] at hj;rw[hat j hj];show((2+(p+j) % sz:Nat):Int)≠((1:Nat):Int);omega
 ·rw[e5 (2+i)];have hg:=adG (p:=p) (i:=i) hs;have hag:=adD (p:=p) hi;by_cases hc:gap sz p i<xs.length
  ·rw[Ub ws _ _ (gap sz p i) (by rw[hwl];exact hc) (by rw[hat _ hc,hag]) (fun j h1 h2=>?_),hat _ hc]
   ·show(xs.map FB.bs).getD (gap sz p i) []=_;rw[hge _ hc];unfold QC;rw[if_pos hc]
   ·rw[hwl] at h2;rw[hat j h2];show((2+(p+j) % sz:Nat):Int)≠((2+i:Nat):Int);intro e;have e':(p+j) % sz=i:=by omega
    have:=Uu (sz:=sz) (p:=p) (j:=j) hs (by omega);rw[e'] at this;omega
  ·rw[Z1 _ _ _ (fun j hj=>?_)]
   ·unfold QC;rw[if_neg hc];exact h.at' i hi
   ·rw[hwl] at hj;rw[hat j hj];show((2+(p+j) % sz:Nat):Int)≠((2+i:Nat):Int);intro e;have e':(p+j) % sz=i:=by omega
    have:=Uu (sz:=sz) (p:=p) (j:=j) hs (by omega);rw[e'] at this;omega
end Go.Proofs.YtacjklochmelfaaGreatDoor
