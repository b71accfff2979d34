import Derived.Test.YtacjklochmelfaaGreatDoorPutByt
import Derived.Test.YtacjklochmelfaaGreatDoorHeld
import Derived.Test.YtacjklochmelfaaGreatDoorWeak
import Derived.Deep.RegionWith
import Derived.Deep.DeepCutAuto
import Derived.Test.YtacjklochmelfaaGreatDoorJReadC
import Derived.Test.YtacjklochmelfaaGreatDoorSpecBody2
import Derived.Test.YtacjklochmelfaaGreatDoorCells2
import Derived.Test.YtacjklochmelfaaGreatDoorCopyRow
import Derived.Test.YtacjklochmelfaaGreatDoorTxnBase
import Derived.Test.YtacjklochmelfaaGreatDoorJReadD
import Derived.Test.YtacjklochmelfaaGreatDoorRowZ
import Derived.Test.YtacjklochmelfaaGreatDoorRowsE
import Derived.Great.BuildSlice
import Derived.BigQuiet
import Derived.Maps.Own
import Derived.Maps.OwnSet
import Derived.Maps.Views
import Derived.Maps.RangeWalk
import Derived.Test.YtacjklochmelfaaGreatDoorRows
namespace Go.Proofs.YtacjklochmelfaaGreatDoor
open Go.RowKit
set_option maxRecDepth 100000
set_option maxHeartbeats 16000000
theorem aci {v:Int}(h0:0≤v)(h1:v<65536):(zk v 2).length=2:=by
 unfold zk;rw[if_neg (by omega),if_neg (by rw[show(256:Int)^ (2:Int).toNat=65536 from rfl];omega),qw];rfl
theorem V5 {v:Int}(h0:0≤v)(h1:v≤4294967295):(zk v 4).length=4:=by
 unfold zk;rw[if_neg (by omega),if_neg (by rw[show(256:Int)^ (4:Int).toNat=4294967296 from rfl];omega),qw];rfl
abbrev abw (q c s:Int):Prop:=(1≤q∧q≤4294967295)∧(1≤c∧c<512)∧0≤s∧s≤4294967295
def jm (q c s:Int):List Int:=if abw q c s then qc (zm 4 c q++zk s 4) else []
theorem K3 {w:World}{s:Nat}{a b c:Value}{t:TypeId}(h:w.heap[s]?=some (.cells #[a,b,c] t (0,0))):
  w.cell? (zd s)=some a∧w.cell? ⟨s,1,none⟩=some b∧w.cell? ⟨s,2,none⟩=some c:=by
 simp[World.cell?,h]
theorem XU (w:World)(q c s:Int):
  Calls Tryz.prog 54 #[.agg #[za q,za c,za s]] w fun e w'=> ∃v,e= .returned v∧zi w' w.heap.size 5 v (jm q c s)∧Chg 0 0 w w':=by
 have C0:Chg 0 0 w (w.alloc (.cells #[za q,za c,za s] 111)):=Chg.alloc (Chg.refl 0 0 w) _;have B0:=zh w (.cells #[za q,za c,za s] 111);have s0:(w.alloc (.cells #[za q,za c,za s] 111)).heap.size=w.heap.size+1:=by simp
 have HE:Hid (∀w1:World,w.heap.size≤w1.heap.size→zi (w1.alloc (.cells #[] 5)) w.heap.size 5 (.slice (some (zd w1.heap.size)) 0 0) []):=by
  intro w1 h;have:=World.ownsRow_lit (base:=w.heap.size) (e:=5) (size:=1) w1 #[] 0 h (by unfold maxLen;omega) rfl;simpa [zi] using this
 have hN:=jp (w.alloc (.cells #[za q,za c,za s] 111)) q;have HB:Hid _:=B0;have HC:Hid _:=C0;clear C0 B0;go_enter Tryz.func54,Tryz.ntmps54;go_wp2_with fail;generalize w.alloc (.cells #[za q,za c,za s] 111)=w1 at*;refine hN.mono ?_;rintro e w2 ⟨rfl,rfl⟩;have hlt:w.heap.size<w2.heap.size:=by omega
 clear hN s0;obtain⟨k0,k1,k2⟩:=K3 HB.out;have HO:Hid _:=HE.out w2 (by omega);have HC2:Hid (Chg 0 0 w (w2.alloc (.cells #[] 5))):=HC.out.alloc _;by_cases hq:1≤q∧q≤4294967295
 case neg=>
  have hg:qf q=false:=by unfold qf;rw[←Bool.decide_and,decide_eq_false hq]
  have hL:jm q c s= []:=by unfold jm;rw[if_neg (fun h=>hq h.1)]
  have HL:Hid _:=hL;rw[hg];clear hL;clear hq;go_wp2;go_ret;exact⟨_,rfl,by rw[HL.out];exact HO.out,HC2.out⟩
 have hg:qf q=true:=by unfold qf;rw[←Bool.decide_and,decide_eq_true hq]
 rw[hg];by_cases hc1:c<1
 ·have hL:jm q c s= []:=by unfold jm;rw[if_neg (fun h=>by have:=h.2.1.1;omega)]
  have HL:Hid _:=hL;clear hL;go_wp2;go_ret;exact⟨_,rfl,by rw[HL.out];exact HO.out,HC2.out⟩
 by_cases hc2:512≤c
 ·have hL:jm q c s= []:=by unfold jm;rw[if_neg (fun h=>by have:=h.2.1.2;omega)]
  have HL:Hid _:=hL;clear hL;go_wp2;go_ret;exact⟨_,rfl,by rw[HL.out];exact HO.out,HC2.out⟩
 by_cases hs1:s<0
 ·have hL:jm q c s= []:=by unfold jm;rw[if_neg (fun h=>by have:=h.2.2.1;omega)]
  have HL:Hid _:=hL;clear hL;go_wp2;go_ret;exact⟨_,rfl,by rw[HL.out];exact HO.out,HC2.out⟩
 by_cases hs2:4294967295<s
 ·have hL:jm q c s= []:=by unfold jm;rw[if_neg (fun h=>by have:=h.2.2.2;omega)]
  have HL:Hid _:=hL;clear hL;go_wp2;go_ret;exact⟨_,rfl,by rw[HL.out];exact HO.out,HC2.out⟩
 have hL:jm q c s=qc (zm 4 c q++zk s 4):=by unfold jm;rw[if_pos ⟨hq,⟨by omega,by omega⟩,by omega,by omega⟩]
 have HL:Hid _:=hL;have Hc2:Hid ((zk c 2).length=2):=aci (by omega) (by omega);have Hq4:Hid ((zk q 4).length=4):=V5 (by omega) (by omega);have Hs4:Hid ((zk s 4).length=4):=V5 (by omega) (by omega);clear HO HC2 hL HE;go_upto_region 4 with fail;go_cut [2] (fun s2 wx=>zi wx w.heap.size 5 s2 (qc (zm 4 c q++zk s 4))∧Chg 0 0 w2 wx)
 case first=>
  have HS0:Hid (w2.drew.cell? (zd w.heap.size)=some (za q)∧w2.drew.cell? ⟨w.heap.size,1,none⟩=some (za c)∧w2.drew.cell? ⟨w.heap.size,2,none⟩=some (za s)):=⟨k0,k1,k2⟩;have HC0:Hid _:=Chg.drew (Chg.refl 0 0 w2);have hq2:q≤9223372036854775807:=by omega
  clear k0 k1 k2;refine zp (fun w':World=>w'.cell? (zd w.heap.size)=some (za q)∧w'.cell? ⟨w.heap.size,1,none⟩=some (za c)∧w'.cell? ⟨w.heap.size,2,none⟩=some (za s)) (by kernel_rfl) ?_;refine hTk 0 (.pointer (some ⟨w.heap.size,1,none⟩)) rfl (fun w' hw'=>by have h4:=hw'.1;have h5:=hw'.2.1;have h6:=hw'.2.2;go_simp) HS0.out ?_;go_simp;refine hTk 1 (za c) rfl (fun w' hw'=>by have h4:=hw'.1;have h5:=hw'.2.1;have h6:=hw'.2.2;go_simp) HS0.out ?_
  go_simp;refine hTk 2 (.pointer (some (zd w.heap.size))) rfl (fun w' hw'=>by have h4:=hw'.1;have h5:=hw'.2.1;have h6:=hw'.2.2;go_simp) HS0.out ?_;go_simp;refine hTk 3 (za q) rfl (fun w' hw'=>by have h4:=hw'.1;have h5:=hw'.2.1;have h6:=hw'.2.2;go_simp) HS0.out ?_;go_simp;refine hTk 5 (.pointer (some ⟨w.heap.size,2,none⟩)) rfl (fun w' hw'=>by have h4:=hw'.1;have h5:=hw'.2.1;have h6:=hw'.2.2;go_simp) HS0.out ?_
  go_simp;refine hTk 6 (za s) rfl (fun w' hw'=>by have h4:=hw'.1;have h5:=hw'.2.1;have h6:=hw'.2.2;go_simp) HS0.out ?_;go_simp;have hds:w.heap.size<w2.drew.heap.size:=by show w.heap.size<w2.heap.size;omega
  generalize w2.drew=w3 at*;have hN:=ZN w3 4 c q (by omega) (by omega) (by omega) Hc2.out Hq4.out;refine zg 4 rfl rfl (by kernel_rfl) ?_;refine zl 73 #[za 4,za c,za q] (by first|kernel_rfl|go_simp) hN ?_;rintro e w4 ⟨v4,rfl,o4,h4⟩;obtain⟨e4,l4,c4,rfl⟩:=zx o4;have HS4:Hid (w4.cell? (zd w.heap.size)=some (za q)∧w4.cell? ⟨w.heap.size,1,none⟩=some (za c)∧w4.cell? ⟨w.heap.size,2,none⟩=some (za s)):=⟨h4.cell HS0.out.1 (by omega),h4.cell HS0.out.2.1 (by omega),h4.cell HS0.out.2.2 (by omega)⟩
  have s4:=h4.size;have HO4:Hid (zi w4 w3.heap.size 5 (.slice e4 l4 c4) (zm 4 c q)):=o4;have HC4:Hid _:=HC0.out.trans h4;refine⟨_,rfl,HS4.out,?_⟩;clear hN o4 h4;go_simp;have hN:=zI w4 s 4 (by omega);refine zg 7 rfl rfl (by kernel_rfl) ?_;refine zl 71 #[za s,za 4] (by first|kernel_rfl|go_simp) hN ?_;rintro e w5 ⟨v5,rfl,o5,h5⟩;have HS5:Hid (_∧_∧_):=⟨h5.cell HS4.out.1 (by omega),h5.cell HS4.out.2.1 (by omega),h5.cell HS4.out.2.2 (by omega)⟩
  have s5:=h5.size;have HV4:Hid (zr w5 w3.heap.size w4.heap.size .u8 (.slice e4 l4 c4) (zm 4 c q)):=(HO4.out.view (by have h1:=Hc2.out;have h2:=Hq4.out;simp[zm,mg,h1,h2]) (fun g hg=>(HO4.out.lt g hg).2)).chg h5 (by omega);have HV5:Hid (zr w5 w4.heap.size w5.heap.size .u8 v5 (zk s 4)):=o5.view (by rw[Hs4.out];omega) (fun g hg=>(o5.lt g hg).2);obtain⟨e5,l5,c5,rfl⟩:=zx o5;have HC5:Hid _:=HC4.out.trans h5
  refine⟨_,rfl,HS5.out,?_⟩;clear hN o5 h5;go_simp;obtain⟨b5,f5,rfl⟩: ∃b f,e5=some ⟨b,f,none⟩:=by
   obtain⟨ao,cap,e,_,_,h⟩:=HV5.out;rcases h with h|⟨b,off,hb,_⟩
   ·have:=Hs4.out;rw[h] at this;simp at this
   ·simp only[Value.slice.injEq] at e;exact⟨b,off,by rw[e.1,hb]⟩
  have hN:=jF (xs:=zm 4 c q) (ys:=zk s 4) w5 (by have h1:=Hc2.out;have h2:=Hq4.out;simp[zm,mg,h1,h2]) (by rw[Hs4.out];omega) HV4.out HV5.out (by rw[Hs4.out];omega);refine zg 8 rfl rfl (by kernel_rfl) ?_;refine zl 47 #[.slice e4 l4 c4,.slice (some ⟨b5,f5,none⟩) l5 c5] (by first|kernel_rfl|go_simp) hN ?_;rintro e w6 ⟨v6,rfl,o6,h6⟩;have HS6:Hid (_∧_∧_):=⟨h6.cell HS5.out.1 (by omega),h6.cell HS5.out.2.1 (by omega),h6.cell HS5.out.2.2 (by omega)⟩
  have s6:=h6.size;have Hl16:Hid ((zm 4 c q++zk s 4).length=16):=by
   show _=_;have h1:=Hc2.out;have h2:=Hq4.out;have h3:=Hs4.out;simp[zm,mg,h1,h2,h3]
  have HV6:Hid (zr w6 w5.heap.size w6.heap.size .u8 v6 (zm 4 c q++zk s 4)):=o6.view (by rw[Hl16.out];omega) (fun g hg=>(o6.lt g hg).2);obtain⟨e6,l6,c6,rfl⟩:=zx o6;have HC6:Hid _:=HC5.out.trans h6;refine⟨_,rfl,HS6.out,?_⟩;clear hN o6 h6;go_simp;have hN:=Eh w6 (by rw[Hl16.out];omega) HV6.out;refine zg 9 rfl rfl (by kernel_rfl) ?_;refine zl 88 #[.slice e6 l6 c6] (by first|kernel_rfl|go_simp) hN ?_;rintro e w7 ⟨v7,rfl,o7,h7⟩
  have HS7:Hid (_∧_∧_):=⟨h7.cell HS6.out.1 (by omega),h7.cell HS6.out.2.1 (by omega),h7.cell HS6.out.2.2 (by omega)⟩;have HO7:Hid (zi w7 w.heap.size 5 v7 (qc (zm 4 c q++zk s 4))):=o7.base (fun g hg=>by have:=(o7.lt g hg).1;omega);obtain⟨e7,l7,c7,rfl⟩:=zx o7;have HC7:Hid _:=HC6.out.trans h7;refine⟨_,rfl,HS7.out,?_⟩;clear hN o7 h7;go_simp;refine zg 10 rfl rfl (by kernel_rfl) ?_;go_simp;refine⟨HS7.out,?_⟩
  refine zt (by kernel_rfl) (NoPanic.normal ?_);go_wp2;go_meet;exact⟨HO7.out,HC7.out⟩
 case rest=>
  obtain⟨ho,hc⟩:=hcut;have HO:Hid _:=ho;have HCw:Hid _:=HC.out.trans hc;clear ho hc;go_wp2;go_ret;exact⟨_,rfl,by rw[HL.out];exact HO.out,HCw.out⟩
theorem Uz (w:World)(x b:Nat)(hx:x<4294967296)(hb:b<2):
  Calls Tryz.prog 116 #[za x,za b] w fun e w'=>e= .returned (za (stp x b:Nat))∧w'=w:=by
 by_cases h1:(x+b) % 2=1
 ·have HX:Hid (((stp x b:Nat):Int)=bits .xor .i64 ((x:Int)/2) 2197175160):=by
   show _=_;rw[abr x hx];unfold stp;rw[if_pos h1]
  have hc:(((x:Int)+b) % 2==1)=true:=by rw[show((x:Int)+b) % 2=1 by omega];rfl
  rw[HX.out];go_enter Tryz.func116,Tryz.ntmps116;go_wp2;go_ret;exact⟨rfl,rfl⟩
 ·have HX:Hid (((stp x b:Nat):Int)=(x:Int)/2):=by
   show _=_;unfold stp;rw[if_neg h1];omega
  have hc:(((x:Int)+b) % 2==1)=false:=by rw[show((x:Int)+b) % 2=0 by omega];rfl
  rw[HX.out];go_enter Tryz.func116,Tryz.ntmps116;go_wp2;go_ret;exact⟨rfl,rfl⟩
theorem Nb (w:World)(x:Nat)(hx:x<4294967296)(xs:List Int)(b off cap:Nat)(hB:Byt xs)(hl:xs.length≤9223372036854775807)
  (h1: ∀i,i<xs.length→w.cell? ⟨b,off+i,none⟩=some (zb (xs.getD i 0))):
  Calls Tryz.prog 87 #[za x,.slice (some ⟨b,off,none⟩) xs.length cap] w fun e w'=>e= .returned (za (reg x (nb xs):Nat))∧w'=w:=by
 have HB:Hid (Byt xs):=hB;have HG:Hid (∀i,i<xs.length→w.cell? ⟨b,off+i,none⟩=some (zb (xs.getD i 0))):=h1;clear hB h1;go_enter Tryz.func87,Tryz.ntmps87;go_wp2;go_loop [0,5] (fun y i=> ∃k:Nat,k≤xs.length∧i=za k∧y=za (reg x (nb (xs.take k)):Nat)) (fun _ i=>xs.length-(intOf i).toNat)
 case atStart=>exact⟨0,Nat.zero_le _,rfl,rfl⟩
 case round=>
  obtain⟨k,hk,rfl,rfl⟩:=hrel;by_cases hlt:k<xs.length
  ·have c1:=HG.out k hlt;have b3:=HB.out.getD k;have hi:(k:Int)<(xs.length:Int):=by omega
   have b1:=Je (nb (xs.take k)) x hx;have HE:Hid (reg x (nb (xs.take (k+1)))=qI 8 (reg x (nb (xs.take k))) (xs.getD k 0).toNat):=Qg x xs k hlt;generalize reg x (nb (xs.take k))=y at*;obtain⟨d,hd⟩: ∃d:Nat,xs.getD k 0=(d:Int):=⟨(xs.getD k 0).toNat,by omega⟩;have HD:Hid (xs.getD k 0=(d:Int)):=hd;rw[hd] at c1 b3;clear hd;go_wp2;go_loop [0,6,7] (fun z v j=> ∃m:Nat,m≤8∧j=za m∧v=za (d/2^m:Nat)∧z=za (qI m y d:Nat)) (fun _ _ j=>8-(intOf j).toNat)
   case atStart=>exact⟨0,Nat.zero_le _,rfl,by simp,rfl⟩
   case round=>
    obtain⟨m,hm,rfl,rfl,rfl⟩:=hrel;have b2:=Xt m y d b1;by_cases hm8:m<8
    ·have HN:Hid (qI (m+1) y d=stp (qI m y d) (d/2^m % 2)):=aa1 m y d;have HV:Hid (d/2^ (m+1)=d/2^m/2):=by show _=_;rw[Nat.pow_succ,Nat.div_div_eq_div_mul]
     have hle:d/2^m≤d:=Nat.div_le_self _ _;generalize qI m y d=z at*;generalize d/2^m=v at*;have hm':(m:Int)<8:=by omega
     have E2:Hid ((v:Int) % 2=((v % 2:Nat):Int)):=by show _=_;omega
     go_wp2_with fail;rw[E2.out];refine(Uz _ z (v % 2) b2 (by omega)).mono ?_;rintro e w1 ⟨rfl,rfl⟩;clear E2;go_wp2;go_round
     case rel=>exact⟨m+1,by omega,by go_num,by rw[HV.out];go_num,by rw[HN.out]⟩
     case measure=>simp[intOf];omega
    ·obtain rfl:m=8:=by omega
     have HE':Hid (reg x (nb (xs.take (k+1)))=qI 8 y d):=by show _=_;rw[HE.out,HD.out];rfl
     clear HE;generalize qI 8 y d=z at*;go_wp2;go_round
     case rel=>exact⟨k+1,by omega,by go_num,by rw[HE'.out]⟩
     case measure=>simp[intOf];omega
  ·obtain rfl:k=xs.length:=by omega
   rw[List.take_length];go_wp2;go_ret;exact⟨rfl,rfl⟩
theorem Na (w:World)(x:Nat)(ao:Option Addr)(cap:Nat):
  Calls Tryz.prog 87 #[za x,.slice ao 0 cap] w fun e w'=>e= .returned (za (x:Nat))∧w'=w:=by
 go_enter Tryz.func87,Tryz.ntmps87;go_wp2;refine wp_loop_rounds 1 ?_;rw[rounds_succ];go_wp2;go_ret;exact⟨rfl,rfl⟩
theorem Eg (w:World)(x:Nat)(hx:x<4294967296){lo hi:Nat}{a:Value}{xs:List Int}(hB:Byt xs)(h1:zr w lo hi .u8 a xs):
  Calls Tryz.prog 87 #[za x,a] w fun e w'=>e= .returned (za (reg x (nb xs):Nat))∧w'=w:=by
 obtain⟨ao,cap,rfl,hl,_,h1⟩:=h1;rcases h1 with rfl|⟨g,off,rfl,_,_,h1⟩
 ·exact Na w x ao cap
 ·exact Nb w x hx xs g off cap hB hl h1
theorem Qi (w:World){lo hi:Nat}{a:Value}{xs:List Int}(hB:Byt xs)(h1:zr w lo hi .u8 a xs):
  Calls Tryz.prog 53 #[a] w fun e w'=>e= .returned (za (jW xs))∧w'=w:=by
 have hlt:=Je (nb xs) 4294967295 (by omega);have HV:Hid (jW xs=4294967295-(reg 4294967295 (nb xs):Nat)):=rfl;rw[HV.out];go_enter Tryz.func53,Tryz.ntmps53;go_wp2_with fail;refine(Eg _ 4294967295 (by omega) hB h1).mono ?_;rintro e w1 ⟨rfl,rfl⟩;generalize hr:reg 4294967295 (nb xs)=r at*;have HR:Hid (reg 4294967295 (nb xs)=r):=hr;clear hr;go_wp2;go_ret;exact⟨by rw[HR.out];rfl,rfl⟩
theorem Byt.app {xs ys:List Int}(h:Byt xs)(k:Byt ys):Byt (xs++ys):=fun x hx=>(List.mem_append.1 hx).elim (h x) (k x)
theorem VM (n:Nat):Byt (List.replicate n 0):=fun x hx=>by rw[(List.mem_replicate.1 hx).2];omega
theorem Jj {xs:List Int}(h:Byt xs):Byt (qc xs):=h.app (VM _)
theorem Qk {k c q:Int}(hk:0≤k∧k<256):Byt (zm k c q):=by
 unfold zm;refine Byt.app (Byt.app (Byt.app ?_ ?_) (qh _ _)) (qh _ _)
 ·intro x hx;unfold mg at hx;simp at hx;omega
 ·intro x hx;simp at hx;omega
theorem VK (xs:List Int):Byt (z8 xs):=fun x hx=>by
 unfold z8 at hx
 obtain⟨y,_,hy⟩:=List.mem_flatMap.1 hx
 exact qh _ _ x hy
theorem VL (ts:List (Int×Bool)):Byt (zE ts):=fun x hx=>by
 unfold zE at hx
 obtain⟨y,_,hy⟩:=List.mem_flatMap.1 hx
 unfold Xw at hy
 rcases List.mem_append.1 hy with h|h
 ·exact qh _ _ x h
 ·rw[List.mem_singleton.1 h];split<;>omega
theorem NZ {xs:List Int}(h:Byt xs):Byt (jy xs):=by
 unfold jy;split
 ·exact Byt.app (fun x hx=>by simp at hx;omega) (h.drop 4)
 ·exact h
theorem EQ {q:Int}{hs:List Wr}(rs:List Int)(h: ∀x∈hs,Byt x.2): ∀b∈BL q hs rs,Byt b:=by
 intro b hb;unfold BL at hb;rcases List.mem_append.1 hb with hb|hb
 ·obtain⟨c,_,rfl⟩:=List.mem_map.1 hb;exact Jj ((Qk (by omega)).app (VK _))
 ·obtain⟨c,hc,hb⟩:=List.mem_flatMap.1 hb;unfold zG at hb;rcases List.mem_cons.1 hb with rfl|hb
  ·exact Jj ((Qk (by omega)).app (VL _))
  ·obtain⟨x,hx,rfl⟩:=List.mem_map.1 hb;exact NZ (h x (VO hc x hx))
theorem abK {bs:List (List Int)}(h: ∀b∈bs,Byt b):Byt bs.flatten:=fun x hx=>by
 obtain⟨b,hb,hx⟩:=List.mem_flatten.1 hx
 exact h b hb x hx
def Kf (q:Int) (bs:List (List Int)):List Int:=qc (zm 4 bs.length q++zk (jW bs.flatten) 4)
def TL (t:Tx):List (List Int):=if qO t=true then BL t.seq t.homes t.revs++ [Kf t.seq (BL t.seq t.homes t.revs)] else []
theorem abN {q:Int}{bs:List (List Int)}(h0:1≤q)(h1:q≤4294967295)(hl:bs.length<512):(Kf q bs).length=64:=by
 unfold Kf qc;obtain⟨c0,c1⟩:=qp bs.flatten;have e:(zm 4 bs.length q++zk (jW bs.flatten) 4).length=16:=by rw[List.length_append,Qp (pn2 (by omega) (by omega)) (pn4 (by omega) h1),pn4 c0 c1]
 rw[List.length_append,List.length_replicate,e]
theorem abt {q:Int}{hs:List Wr}{rs:List Int}(h:1≤hs.length+rs.length):1≤(BL q hs rs).length:=by
 by_cases hr:0<rs.length
 ·rw[EU q hs hr,List.length_cons];omega
 ·obtain rfl:rs= []:=List.eq_nil_of_length_eq_zero (by omega);rw[Ui q (by simp only[List.length_nil] at h;omega)];unfold zG;simp
theorem jL (w:World){lo hi:Nat}{a:Value}{t:Tx}(hl:Z3 t≤1048576)(hhi:hi≤w.heap.size)(hby: ∀x∈t.homes,Byt x.2)(h1:jI w lo hi a t):
  Calls Tryz.prog 22 #[a] w fun e w'=>Told w w' e (TL t):=by
 have hT:=h1;obtain⟨hv,rv,rfl,p1,v1⟩:=h1;obtain⟨po,pcap,rfl⟩:=p1.slice;obtain⟨ao,cap,rfl⟩:=v1.slice;have C0:Chg 0 0 w (w.alloc (.cells #[za t.seq,.slice po t.homes.length pcap,.slice ao t.revs.length cap] 35)):=Chg.alloc (Chg.refl 0 0 w) _;have B0:=zh w (.cells #[za t.seq,.slice po t.homes.length pcap,.slice ao t.revs.length cap] 35);have s0:(w.alloc (.cells #[za t.seq,.slice po t.homes.length pcap,.slice ao t.revs.length cap] 35)).heap.size=w.heap.size+1:=by simp
 obtain⟨⟨k0,k1,k2⟩,_⟩:=tri B0;have hN:=J5 (w.alloc (.cells #[za t.seq,.slice po t.homes.length pcap,.slice ao t.revs.length cap] 35)) hl (hT.chg C0 (by omega));have HT:Hid (∀W,Chg 0 0 w W→jI W lo hi (.agg #[za t.seq,.slice po t.homes.length pcap,.slice ao t.revs.length cap]) t):=fun W hW=>hT.chg hW (by omega);have HB0:Hid _:=B0;have HC0:Hid _:=C0;clear B0 C0 hT p1 v1;by_cases hval:jx t
 case neg=>
  rw[z9 hval] at hN;have HTL:Hid (TL t= []):=by show _=_;unfold TL;rw[z9 hval];rfl
  go_enter Tryz.func22,Tryz.ntmps22;go_wp2_with fail;generalize w.alloc (.cells #[za t.seq,.slice po t.homes.length pcap,.slice ao t.revs.length cap] 35)=w1 at*;refine hN.mono ?_;rintro e w2 ⟨rfl,h2⟩;have HO:Hid (zi (w2.alloc (.cells #[] 5)) w.heap.size 5 (.slice (some (zd w2.heap.size)) 0 0) []):=zi.bnil w2 w.heap.size (by have:=h2.size;omega);have HC:Hid (Chg 0 0 w (w2.alloc (.cells #[] 5))):=(HC0.out.trans h2).alloc _
  clear hN h2 k0 k1 k2;go_wp2;go_ret;exact⟨_,_,by rw[HTL.out];rfl,by rw[HTL.out];exact HO.out,HC.out⟩
 rw[qz hval] at hN;have HTL:Hid (TL t=BL t.seq t.homes t.revs++ [Kf t.seq (BL t.seq t.homes t.revs)]):=by show _=_;unfold TL;rw[if_pos (qz hval)]
 have hok:=OkT.of hval hby;obtain⟨⟨_,hs1,hs2⟩,_⟩:=hval;obtain⟨i1,i2⟩:=VG 128 (q:=t.seq) (hs:=t.homes) (rs:=t.revs) (by omega) hok;have hBy:=abK (EQ (q:=t.seq) t.revs hby);have hp:=abt (q:=t.seq) (hs:=t.homes) (rs:=t.revs) (by omega);have HREC:Hid (∀W,Chg 0 0 w W→Calls Tryz.prog 52 #[.agg #[za t.seq,.slice po t.homes.length pcap,.slice ao t.revs.length cap]] W fun e w'=>Told W w' e (BL t.seq t.homes t.revs)):=fun W hW=>UA 128 W (by omega) (by omega) hok (by have:=hW.size;omega) (HT.out W hW)
 have q0:=hok.q0;have q1:=hok.q1;have hfl:=Q2 i1;have HcL:Hid ((Kf t.seq (BL t.seq t.homes t.revs)).length=64):=abN q0 q1 (by omega);obtain⟨c0,c1⟩:=qp (BL t.seq t.homes t.revs).flatten;have HcC:Hid (jm t.seq ((BL t.seq t.homes t.revs).length:Int) (jW (BL t.seq t.homes t.revs).flatten)=Kf t.seq (BL t.seq t.homes t.revs)):=by
  show _=_;unfold jm;rw[if_pos ⟨⟨q0,q1⟩,⟨by omega,by omega⟩,c0,c1⟩];rfl
 have HBy:Hid _:=hBy;clear i1 hok hBy;generalize Kf t.seq (BL t.seq t.homes t.revs)=cb at*;generalize hBs:BL t.seq t.homes t.revs=bs at*;have hbs:bs.length≤256:=by omega
 obtain⟨L,hL⟩: ∃L,L=64*bs.length:=⟨_,rfl⟩;obtain⟨nb,hnb⟩: ∃nb:Int,nb=(bs.length:Int):=⟨_,rfl⟩;have HL:Hid _:=hL;have Hnb:Hid _:=hnb;have hq64:(L:Int).tdiv 64=nb:=by rw[Int.tdiv_eq_ediv_of_nonneg (by omega),hL,hnb];omega
 have hwn:IntKind.i64.wrap nb=nb:=by rw[IntKind.wrap_i64];omega
 have hLb:L≤16384:=by omega
 have HCRC:Hid (∀W,zr W w.heap.size W.heap.size .u8 (.slice (some (zd 0)) 0 0) []→True):=fun _ _=>trivial;clear HCRC;obtain⟨cr,hcr⟩: ∃cr,cr=jW bs.flatten:=⟨_,rfl⟩;have Hcr:Hid _:=hcr;rw[←hnb,←hcr] at HcC;rw[←hcr] at c0 c1;clear hBs hL hnb hcr i2 hs1 hs2;go_enter Tryz.func22,Tryz.ntmps22;go_wp2_with fail;generalize w.alloc (.cells #[za t.seq,.slice po t.homes.length pcap,.slice ao t.revs.length cap] 35)=w1 at*
 refine hN.mono ?_;rintro e w1b ⟨rfl,h1b⟩;have HB1:Hid _:=(h1b.block _ (by omega) (by omega)).trans HB0.out;have HC1:Hid _:=HC0.out.trans h1b;have s1:=h1b.size;obtain⟨⟨k0,k1,k2⟩,_⟩:=tri HB1.out;clear hN h1b HB0 HC0;go_wp2_with fail;refine(HREC.out _ HC1.out).mono ?_;rintro e w2 ⟨g,gc,rfl,o2,h2⟩;have HB2:Hid _:=(h2.block _ (by omega) (by omega)).trans HB1.out;have HC2:Hid _:=HC1.out.trans h2;have s2:=h2.size
 have HO2:Hid (zi w2 w.heap.size 5 (.slice (some (zd g)) L gc) bs.flatten):=by
  show zi _ _ _ _ _;rw[HL.out];exact o2.base (fun g hg=>by have:=(o2.lt g hg).1;omega)
 have HV2:Hid (∀W,Chg 0 0 w2 W→zr W w.heap.size w2.heap.size .u8 (.slice (some (zd g)) L gc) bs.flatten):=fun W hW=>(HO2.out.view (hi:=w2.heap.size) (by rw[hfl];omega) (fun g hg=>(HO2.out.lt g hg).2)).chg hW (by omega);have HCRC:Hid (∀W,Chg 0 0 w2 W→Calls Tryz.prog 53 #[.slice (some (zd g)) L gc] W fun e w'=>e= .returned (za cr)∧w'=W):=fun W hW=>by
  rw[Hcr.out];exact Qi W HBy.out (HV2.out W hW)
 rw[←HL.out];clear o2 h2 HB1 HC1 HREC k0 k1 k2;obtain⟨N,hN⟩: ∃N,N=w2.heap.size:=⟨_,rfl⟩;have HN:Hid (_∧_):=⟨by omega,hN⟩;clear hN;go_upto_region 4 with fail;go_cut [4] (fun s wx=>s= .pointer (some (zd N))∧Chg 0 0 w2 wx∧wx.heap[N]?=some (.cells #[za t.seq,za nb,za cr] 111 (0,0)))
 case first=>
  have HS:Hid ((fun w':World=>w'.heap[w.heap.size]?=some (.cells #[za t.seq,.slice po t.homes.length pcap,.slice ao t.revs.length cap] 35 (0,0))) w2.drew):=HB2.out;refine zp (fun w':World=>w'.heap[w.heap.size]?=some (.cells #[za t.seq,.slice po t.homes.length pcap,.slice ao t.revs.length cap] 35 (0,0))) (by kernel_rfl) ?_;refine hTk 0 (.pointer (some (zd w.heap.size))) rfl (fun w' hw'=>by go_simp) HS.out ?_
  go_simp;refine hTk 1 (za t.seq) rfl (fun w' hw'=>by obtain⟨⟨q0,q1,q2⟩,_⟩:=tri hw';go_simp) HS.out ?_;go_simp;refine hTk 2 (.slice (some (zd g)) L gc) rfl (fun w' hw'=>by go_simp) HS.out ?_;go_simp;refine hTk 3 (za L) rfl (fun w' hw'=>by go_simp) HS.out ?_;go_simp;refine hTk 4 (za nb) rfl (fun w' hw'=>by go_simp) HS.out ?_;go_simp;refine hTk 5 (.slice (some (zd g)) L gc) rfl (fun w' hw'=>by go_simp) HS.out ?_
  go_simp;have Cd:=Chg.drew (Chg.refl 0 0 w2);have HCd:Hid _:=Cd;have HNd:Hid (w2.drew.heap.size=w2.heap.size):=rfl;rw[HN.out.2.symm] at HNd;clear Cd;generalize w2.drew=wd at*;refine Zy 6 8 rfl rfl rfl rfl (by kernel_rfl) ?_ ?_
  ·refine zl 53 #[.slice (some (zd g)) L gc] (by first|kernel_rfl|go_simp) (HCRC.out wd HCd.out) ?_;rintro e wq ⟨rfl,rfl⟩;refine⟨_,rfl,HS.out,?_⟩;go_simp;refine hTk 7 (.agg #[za t.seq,za nb,za cr]) rfl (fun w' hw'=>by go_simp) HS.out ?_;go_simp;have Ca:Chg 0 0 wq (wq.alloc (.cells #[za 0,za 0,za 0] 111)):=Chg.alloc (Chg.refl 0 0 wq) _;have HSa:Hid ((fun w':World=>w'.heap[w.heap.size]?=some (.cells #[za t.seq,.slice po t.homes.length pcap,.slice ao t.revs.length cap] 35 (0,0))) (wq.alloc (.cells #[za 0,za 0,za 0] 111))):=(Ca.block _ (by have:=HN.out;have:=HNd.out;omega) (by omega)).trans HS.out
   have HA:Hid ((wq.alloc (.cells #[za 0,za 0,za 0] 111)).heap[N]?=some (.cells #[za 0,za 0,za 0] 111 (0,0))):=by have h:=zh wq (.cells #[za 0,za 0,za 0] 111);rw[HNd.out] at h;exact h
   have HCA:Hid _:=HCd.out.trans Ca;refine zg 8 rfl rfl (by kernel_rfl) ?_;have eN:=HNd.out;go_simp;clear eN Ca;generalize wq.alloc (.cells #[za 0,za 0,za 0] 111)=wb at*;refine⟨HSa.out,?_⟩;refine zg 9 rfl rfl (by kernel_rfl) ?_;refine wp_store_row 111 (.tmp 4) (.tmp 18) rfl rfl N rfl [za t.seq,za nb,za cr] [za 0,za 0,za 0] 111 rfl HA.out rfl (by kernel_rfl) (by simp[Value.oneCell']) ?_;intro wy hy cy
   have HSy:Hid ((fun w':World=>w'.heap[w.heap.size]?=some (.cells #[za t.seq,.slice po t.homes.length pcap,.slice ao t.revs.length cap] 35 (0,0))) wy):=(cy.block _ (by have:=HN.out;have:=HCA.out.size;omega) (by have:=HN.out;omega)).trans HSa.out;have HR:Hid (Chg 0 0 w2 wy∧wy.heap[N]?=some (.cells #[za t.seq,za nb,za cr] 111 (0,0))):=⟨HCA.out.step cy (by have:=HN.out;omega),hy⟩;clear hy cy;refine⟨HSy.out,zt (by kernel_rfl) (NoPanic.normal ?_)⟩
   go_wp2;go_meet;exact⟨rfl,HR.out⟩
  ·have Ca:Chg 0 0 wd (wd.alloc (.cells #[za 0,za 0,za 0] 111)):=Chg.alloc (Chg.refl 0 0 wd) _;have HSa:Hid ((fun w':World=>w'.heap[w.heap.size]?=some (.cells #[za t.seq,.slice po t.homes.length pcap,.slice ao t.revs.length cap] 35 (0,0))) (wd.alloc (.cells #[za 0,za 0,za 0] 111))):=(Ca.block _ (by have:=HN.out;have:=HNd.out;omega) (by omega)).trans HS.out;have HA:Hid ((wd.alloc (.cells #[za 0,za 0,za 0] 111)).heap[N]?=some (.cells #[za 0,za 0,za 0] 111 (0,0))):=by have h:=zh wd (.cells #[za 0,za 0,za 0] 111);rw[HNd.out] at h;exact h
   have HCA:Hid _:=HCd.out.trans Ca;have eN:=HNd.out;go_simp;clear eN Ca;generalize wd.alloc (.cells #[za 0,za 0,za 0] 111)=wb at*;refine⟨HSa.out,?_⟩;refine zg 6 rfl rfl (by kernel_rfl) ?_;refine zl 53 #[.slice (some (zd g)) L gc] (by first|kernel_rfl|go_simp) (HCRC.out wb HCA.out) ?_;rintro e wq ⟨rfl,rfl⟩;refine⟨_,rfl,HSa.out,?_⟩;go_simp;refine hTk 7 (.agg #[za t.seq,za nb,za cr]) rfl (fun w' hw'=>by go_simp) HSa.out ?_
   go_simp;refine zg 9 rfl rfl (by kernel_rfl) ?_;refine wp_store_row 111 (.tmp 4) (.tmp 18) rfl rfl N rfl [za t.seq,za nb,za cr] [za 0,za 0,za 0] 111 rfl HA.out rfl (by kernel_rfl) (by simp[Value.oneCell']) ?_;intro wy hy cy;have HSy:Hid ((fun w':World=>w'.heap[w.heap.size]?=some (.cells #[za t.seq,.slice po t.homes.length pcap,.slice ao t.revs.length cap] 35 (0,0))) wy):=(cy.block _ (by have:=HN.out;have:=HCA.out.size;omega) (by have:=HN.out;omega)).trans HSa.out
   have HR:Hid (Chg 0 0 w2 wy∧wy.heap[N]?=some (.cells #[za t.seq,za nb,za cr] 111 (0,0))):=⟨HCA.out.step cy (by have:=HN.out;omega),hy⟩;clear hy cy;refine⟨HSy.out,zt (by kernel_rfl) (NoPanic.normal ?_)⟩;go_wp2;go_meet;exact⟨rfl,HR.out⟩
 case rest=>
  obtain⟨rfl,hc3,hb3⟩:=hcut;generalize wc=w3 at*;have s3:=hc3.size;obtain⟨⟨y0,y1,y2⟩,_⟩:=tri hb3;have HV3:=HV2.out w3 hc3;have hN:=XU w3 t.seq nb cr;rw[HcC.out] at hN;have HC3:Hid _:=HC2.out.trans hc3;clear hb3 HV2;go_wp2_with fail;refine hN.mono ?_;rintro e w4 ⟨v4,rfl,o4,h4⟩;obtain⟨g4,c4,rfl⟩:=o4.some_of (by rw[HcL.out];omega);rw[HcL.out] at o4⊢;have hV4:zr w4 w3.heap.size w4.heap.size .u8 (.slice (some (zd g4)) 64 c4) cb:=o4.view (by rw[HcL.out];omega) (fun g hg=>(o4.lt g hg).2)
  have hN:=zX (xs:=bs.flatten) (ys:=cb) w4 (by rw[hfl];omega) (by rw[HcL.out];omega) (HV3.chg h4 (by omega)) hV4;have HC4:Hid _:=HC3.out.trans h4;have s4:=h4.size;clear o4 h4 hV4 HV3 y0 y1 y2 hc3;go_wp2_with fail;refine hN.mono ?_;rintro e w5 ⟨v5,rfl,o5,h5⟩;have hl5:(bs.flatten++cb).length=64*(TL t).length:=by rw[HTL.out,List.length_append,hfl,HcL.out,List.length_append];rfl
  have hf5:(TL t).flatten=bs.flatten++cb:=by rw[HTL.out,List.flatten_append];simp
  obtain⟨g5,c5,rfl⟩:=o5.some_of (by rw[hl5,HTL.out,List.length_append];simp);rw[hl5] at o5⊢;have HO5:Hid (zi w5 w.heap.size 5 (.slice (some (zd g5)) (64*(TL t).length) c5) (TL t).flatten):=by
   show zi _ _ _ _ _;rw[hf5];exact o5.base (fun g hg=>by have:=(o5.lt g hg).1;omega)
  have HC5:Hid _:=HC4.out.trans h5;clear hN o5 h5 hl5 hf5;go_wp2;go_ret;exact⟨_,_,rfl,HO5.out,HC5.out⟩
theorem JR {t:Tx}(hby: ∀x∈t.homes,Byt x.2):(TL t).length≤257∧ ∀b∈TL t,b.length=64:=by
 by_cases hval:jx t
 ·have e:TL t=BL t.seq t.homes t.revs++ [Kf t.seq (BL t.seq t.homes t.revs)]:=by unfold TL;rw[if_pos (qz hval)]
  have hok:=OkT.of hval hby;obtain⟨⟨_,hs1,hs2⟩,_⟩:=hval;obtain⟨i1,i2⟩:=VG 128 (q:=t.seq) (hs:=t.homes) (rs:=t.revs) (by omega) hok;rw[e];refine⟨by rw[List.length_append];simp;omega,?_⟩;intro b hb;rcases List.mem_append.1 hb with hb|hb
  ·exact i1 b hb
  ·rw[List.mem_singleton.1 hb];exact abN hok.q0 hok.q1 (by omega)
 ·have e:TL t= []:=by unfold TL;rw[z9 hval];rfl
  rw[e];simp
theorem ZH (w:World){lo hi:Nat}{a:Value}{t:Tx}(hl:Z3 t≤1048576)(hhi:hi≤w.heap.size)(hby: ∀x∈t.homes,Byt x.2)(h1:jI w lo hi a t):
  Calls Tryz.prog 8 #[a] w fun e w'=>e= .returned (za (TL t).length)∧Chg 0 0 w w':=by
 have hT:=h1;obtain⟨hv,rv,rfl,p1,v1⟩:=h1;obtain⟨po,pcap,rfl⟩:=p1.slice;obtain⟨ao,cap,rfl⟩:=v1.slice;have C0:Chg 0 0 w (w.alloc (.cells #[za t.seq,.slice po t.homes.length pcap,.slice ao t.revs.length cap] 35)):=Chg.alloc (Chg.refl 0 0 w) _;have B0:=zh w (.cells #[za t.seq,.slice po t.homes.length pcap,.slice ao t.revs.length cap] 35);obtain⟨⟨k0,k1,k2⟩,_⟩:=tri B0;have hN:=jL (w.alloc (.cells #[za t.seq,.slice po t.homes.length pcap,.slice ao t.revs.length cap] 35)) hl (by have:=C0.size;omega) hby (hT.chg C0 (by omega))
 obtain⟨hb,_⟩:=JR hby;clear B0 hT p1 v1;go_enter Tryz.func8,Tryz.ntmps8;go_wp2_with fail;generalize w.alloc (.cells #[za t.seq,.slice po t.homes.length pcap,.slice ao t.revs.length cap] 35)=w1 at*;refine hN.mono ?_;rintro e w2 ⟨g,c,rfl,_,h2⟩;obtain⟨m,hm⟩: ∃m,(TL t).length=m:=⟨_,rfl⟩;have Hm:Hid _:=hm;rw[hm] at hb⊢;clear hm;obtain⟨L,hL⟩: ∃L,L=64*m:=⟨_,rfl⟩;have hq:(L:Int).tdiv 64=(m:Int):=by rw[Int.tdiv_eq_ediv_of_nonneg (by omega),hL];omega
 have hwn:IntKind.i64.wrap (m:Int)=(m:Int):=by rw[IntKind.wrap_i64];omega
 have HC:Hid _:=C0.trans h2;have hLb:L≤20000:=by omega
 rw[←hL];clear hL hN C0 h2 k0 k1 k2;go_wp2;go_ret;exact⟨by rw[Hm.out];rfl,HC.out⟩
def kindOf (xs:List Int):Int:=if xs.length=64∧xs.take 4=mg∧(1≤xs.getD 4 0∧xs.getD 4 0≤4) then xs.getD 4 0 else 0
theorem ab2 (w:World)(o1 o2:Obj):((w.alloc o1).alloc o2).heap[w.heap.size]?=some o1:=(zN w o1 o2).2.1
theorem aaL (w:World)(o1 o2:Obj):((w.alloc o1).alloc o2).heap[w.heap.size+1]?=some o2:=(zN w o1 o2).2.2
theorem Km (w:World){lo hi:Nat}{a:Value}{xs:List Int}{tL tM tK:TypeId}{vL vM vK:Value}(h1:zr w lo hi .u8 a xs)(hB:Byt xs)(hG:jl w tL tM tK vL vM vK)(hE:Zg w):
  Calls Tryz.prog 132 #[a] w fun e w'=>e= .returned (za (kindOf xs))∧Chg 0 0 w w':=by
 have hO:Calls Tryz.prog 145 #[a] w fun e w'=> ∃(L:List Value) (h0 h1 h2 h3 h4 h5 h6:Int) (ev:Value),e= .returned (.tuple #[.agg L.toArray,.agg #[zb h0,zb h1,zb h2,zb h3,za h4,za h5,za h6],ev])∧L.length=64∧(∀v∈L,v.oneCell'=true)∧Chg 0 0 w w'∧
   ((kindOf xs=0∧ ∃b,ev= .iface 228 (.pointer (some (zd b))))∨(kindOf xs=h4∧ev= .nilIface)):=by
  by_cases hx:xs.length=64
  ·refine(Jc w h1 hB hG hx).mono ?_;rintro e w' ⟨ev,rfl,hc,hr⟩;refine⟨_,_,_,_,_,_,_,_,ev,rfl,by simpa using hx,ints_oneCell _ _,hc,?_⟩;rcases hr with⟨hm,b,k,_,he,_⟩|⟨hm,hk,b,k,_,he,_⟩|⟨hm,hk,he⟩
   ·exact Or.inl ⟨by unfold kindOf;rw[if_neg (fun h=>hm h.2.1)],b,he⟩
   ·exact Or.inl ⟨by unfold kindOf;rw[if_neg (fun h=>hk h.2.2)],b,he⟩
   ·exact Or.inr ⟨by unfold kindOf;rw[if_pos ⟨hx,hm,hk⟩],he⟩
  ·refine(YP w h1 hG hx).mono ?_;rintro e w' ⟨ev,rfl,⟨b,k,_,he,_⟩,hc⟩;exact⟨Z64,0,0,0,0,0,0,0,ev,rfl,zD,NW,hc,Or.inl ⟨by unfold kindOf;rw[if_neg (fun h=>hx h.1)],b,he⟩⟩
 obtain⟨ao,cap,rfl,hl,_,_⟩:=h1;generalize kindOf xs=kd at*;have HET:Hid (Zg w):=hE;clear hG hB hE;go_enter Tryz.func132,Tryz.ntmps132;go_wp2_with fail;refine hO.mono ?_;rintro e w1 ⟨L,h0,h1,h2,h3,h4,h5,h6,ev,rfl,L1,L2,hc1,hr⟩;have HL1:Hid (L.length=64):=L1;have HL2:Hid (∀v∈L,v.oneCell'=true):=L2;have hi28:(Tryz.prog.info? 72).map (·.size)=some L.length:=by rw[L1];kernel_rfl
 have HC1:Hid (Chg 0 0 w w1):=hc1;clear hO L1 L2 hc1;go_upto_region 2 with(first
  |(refine wpList_store_row rfl 72 (.tmp 3) (.tmp 9) rfl rfl w1.heap.size rfl L Z64 72 rfl (by rw[←zM];exact ab2 _ _ _) (by rw[zD];exact HL1.out) hi28 HL2.out ?_;intro w2 hb2 hc2)
  |(refine wpList_store_row rfl 138 (.tmp 4) (.tmp 10) rfl rfl (w1.heap.size+1) rfl [zb h0,zb h1,zb h2,zb h3,za h4,za h5,za h6] z7 138 rfl ((hc2.block (w1.heap.size+1) (by simp) (by omega)).trans (aaL _ _ _)) rfl (by kernel_rfl) (by simp[Value.oneCell']) ?_;intro w3 hb3 hc3))
 have s2:=hc2.size;have s3:=hc3.size;have hz: ∀o1 o2:Obj,((w1.alloc o1).alloc o2).heap.size=w1.heap.size+2:=fun o1 o2=>(zN w1 o1 o2).1;have C3:Chg 0 0 w1 w3:=(((Chg.alloc (Chg.refl 0 0 w1) _).alloc _).step hc2 (by omega)).step hc3 (by omega);have HC3:Hid (Chg 0 0 w w3):=HC1.out.trans C3;have HE3:Hid (Zg w3):=HET.out.chg HC3.out (by omega);have hk4:w3.cell? ⟨w1.heap.size+1,4,none⟩=some (za h4):=by simp[World.cell?,hb3]
 have Hk4:Hid (w3.cell? ⟨w1.heap.size+1,4,none⟩=some (za h4)):=hk4;clear hb2 hb3 hc2 hc3 C3 hz hk4;rcases hr with⟨rfl,b,rfl⟩|⟨rfl,rfl⟩
 ·have hN:=Ee w3 (zd b) HE3.out;go_wp2_with fail;refine hN.mono ?_;rintro e w4 ⟨rfl,hc4⟩;have HC4:Hid (Chg 0 0 w w4):=HC3.out.trans hc4;clear hN hc4;go_wp2;go_ret;exact⟨rfl,HC4.out⟩
 ·have hN:=Zp w3;go_wp2_with fail;refine hN.mono ?_;rintro e w4 ⟨rfl,hc4⟩;have HC4:Hid (Chg 0 0 w w4):=HC3.out.trans hc4;have k4:=hc4.cell Hk4.out (by omega);clear hN hc4;go_wp2;go_ret;exact⟨rfl,HC4.out⟩
def FB:Type:=(Int×List Int)⊕(Int×List (Int×Bool))⊕(Int×Int×Int)⊕List Int
abbrev FB.rev (q:Int) (rs:List Int):FB:= .inl (q,rs)
abbrev FB.des (q:Int) (ts:List (Int×Bool)):FB:= .inr (.inl (q,ts))
abbrev FB.com (q c s:Int):FB:= .inr (.inr (.inl (q,c,s)))
abbrev FB.raw (b:List Int):FB:= .inr (.inr (.inr b))
theorem FB.el {p:FB→Prop}(x:FB)(rev: ∀q rs,p (.rev q rs))(des: ∀q ts,p (.des q ts))(com: ∀q c s,p (.com q c s))(raw: ∀b,p (.raw b)):p x:=match x with
 | .inl (q,rs)=>rev q rs
 | .inr (.inl (q,ts))=>des q ts
 | .inr (.inr (.inl (q,c,s)))=>com q c s
 | .inr (.inr (.inr b))=>raw b
def FB.bs:FB→List Int
 | .inl (q,rs)=>qc (zm 3 (rs.length:Int) q++z8 rs)
 | .inr (.inl (q,ts))=>qc (zm 2 (ts.length:Int) q++zE ts)
 | .inr (.inr (.inl (q,c,s)))=>qc (zm 4 c q++zk s 4)
 | .inr (.inr (.inr b))=>b
def FB.ok:FB→Prop
 | .inl (q,rs)=>(1≤q∧q≤4294967295)∧K7 rs∧1≤rs.length∧rs.length≤26
 | .inr (.inl (q,ts))=>(1≤q∧q≤4294967295)∧K7 (ts.map Prod.fst)∧1≤ts.length∧ts.length≤17
 | .inr (.inr (.inl (q,c,s)))=>(1≤q∧q≤4294967295)∧(1≤c∧c≤511)∧0≤s∧s≤4294967295
 | .inr (.inr (.inr b))=>b.length=64∧Byt b∧b.take 4≠mg
def FB.kind:FB→Int
 | .inl (_,_)=>3
 | .inr (.inl (_,_))=>2
 | .inr (.inr (.inl (_,_,_)))=>4
 | .inr (.inr (.inr _))=>0
theorem Nl {Y:List Int}(h:Y.length≤64):(qc Y).length=64:=by
 unfold qc;rw[List.length_append,List.length_replicate];omega
theorem FB.len {x:FB}(h:x.ok):x.bs.length=64:=by
 cases x using FB.el with
 |rev q rs=>
  obtain⟨hq,hr,hl⟩:=h;refine Nl ?_;rw[List.length_append,qX (pn2 (by omega) (by omega)) (pn4 (by omega) hq.2),Qq hr.2];omega
 |des q ts=>
  obtain⟨hq,hr,hl⟩:=h;refine Nl ?_;rw[List.length_append,qX (pn2 (by omega) (by omega)) (pn4 (by omega) hq.2),Qs (Xx hr.2)];omega
 |com q c s=>
  obtain⟨hq,hc,hs⟩:=h;refine Nl ?_;rw[List.length_append,qX (pn2 (by omega) (by omega)) (pn4 (by omega) hq.2),pn4 hs.1 hs.2];omega
 |raw b=>exact h.1
theorem FB.byt {x:FB}(h:x.ok):Byt x.bs:=by
 cases x using FB.el with
 |rev q rs=>exact Jj ((Qk (by omega)).app (VK _))
 |des q ts=>exact Jj ((Qk (by omega)).app (VL _))
 |com q c s=>exact Jj ((Qk (by omega)).app (qh _ _))
 |raw b=>exact h.2.1
theorem FB.head {x:FB}(h:x.ok):kindOf x.bs=x.kind∧(x.kind≠0→x.bs.take 4=mg):=by
 have hl:=FB.len h
 cases x using FB.el with
 |rev q rs=>
  obtain⟨hq,hr,hl1⟩:=h;obtain⟨b1,b2,_⟩:=ZQ (k:=3) (c:=(rs.length:Int)) (q:=q) (Y:=z8 rs) (pn2 (by omega) (by omega)) (pn4 (by omega) hq.2) (by omega) (by omega);refine⟨?_,fun _=>b1⟩;unfold kindOf;rw[if_pos]
  ·exact b2
  ·exact⟨hl,b1,by change 1≤(qc (zm 3 (rs.length:Int) q++z8 rs)).getD 4 0∧(qc (zm 3 (rs.length:Int) q++z8 rs)).getD 4 0≤4;omega⟩
 |des q ts=>
  obtain⟨hq,hr,hl1⟩:=h;obtain⟨b1,b2,_⟩:=ZQ (k:=2) (c:=(ts.length:Int)) (q:=q) (Y:=zE ts) (pn2 (by omega) (by omega)) (pn4 (by omega) hq.2) (by omega) (by omega);refine⟨?_,fun _=>b1⟩;unfold kindOf;rw[if_pos]
  ·exact b2
  ·exact⟨hl,b1,by change 1≤(qc (zm 2 (ts.length:Int) q++zE ts)).getD 4 0∧(qc (zm 2 (ts.length:Int) q++zE ts)).getD 4 0≤4;omega⟩
 |com q c s=>
  obtain⟨hq,hc,hs⟩:=h;obtain⟨b1,b2,_⟩:=ZQ (k:=4) (c:=c) (q:=q) (Y:=zk s 4) (pn2 (by omega) (by omega)) (pn4 (by omega) hq.2) (by omega) (by omega);refine⟨?_,fun _=>b1⟩;unfold kindOf;rw[if_pos]
  ·exact b2
  ·exact⟨hl,b1,by change 1≤(qc (zm 4 c q++zk s 4)).getD 4 0∧(qc (zm 4 c q++zk s 4)).getD 4 0≤4;omega⟩
 |raw b=>
  refine⟨?_,fun h=>absurd rfl h⟩;unfold kindOf;rw[if_neg]
  ·rfl
  ·exact fun e=>h.2.2 e.2.1
theorem ack (w:World){lo hi:Nat}{a:Value}{tL tM tK:TypeId}{vL vM vK:Value}{q c s:Int}(h:(FB.com q c s).ok)(h1:zr w lo hi .u8 a (FB.com q c s).bs)(hG:jl w tL tM tK vL vM vK):
  Calls Tryz.prog 154 #[a] w fun e w'=>e= .returned (.tuple #[.agg #[zb 106,zb 108,zb 111,zb 103,za 4,za c,za q,za s],.nilIface])∧Chg 0 0 w w':=by
 have hB:=FB.byt h;obtain⟨hq,hc,hs⟩:=h;exact acl w c q s h1 hB hG ⟨hq.1,hq.2,hc.1,hc.2⟩ hs
theorem acj {rs:List Int}(h: ∀x∈rs,0≤x∧x<2048)(Z:List Int): ∀i,i<rs.length→((z8 rs++Z).drop (2*i)).take 2=zk (rs.getD i 0) 2:=by
 induction rs with
 |nil=>intro i hi;simp at hi
 |cons x r ih=>
  intro i hi;have hx:=jP (h x (by simp));have e:z8 (x::r)=zk x 2++z8 r:=by unfold z8;rw[List.flatMap_cons]
  rw[e,List.append_assoc]
  cases i with
  |zero=>rw[Nat.mul_zero,List.drop_zero,List.take_append_of_le_length (by omega),List.take_of_length_le (by omega)];rfl
  |succ i=>
   rw[show 2*(i+1)=(zk x 2).length+2*i by omega,List.drop_append,List.drop_eq_nil_of_le (by omega),List.nil_append,Nat.add_sub_cancel_left];exact ih (fun y hy=>h y (by simp[hy])) i (by simpa using hi)
theorem acn (w:World){lo hi:Nat}{a:Value}{tL tM tK:TypeId}{vL vM vK:Value}{q:Int}{rs:List Int}(h:(FB.rev q rs).ok)(h1:zr w lo hi .u8 a (FB.rev q rs).bs)(hG:jl w tL tM tK vL vM vK):
  Calls Tryz.prog 152 #[a] w fun e w'=> ∃g,e= .returned (.tuple #[.agg #[zb 106,zb 108,zb 111,zb 103,za 3,za (rs.length:Int),za q,.slice (some (zd g)) rs.length rs.length],.nilIface])∧zP w' w.heap.size 2 (.slice (some (zd g)) rs.length rs.length) rs∧Chg 0 0 w w':=by
 have hB:=FB.byt h;have hl:=FB.len h;obtain⟨hq,hr,hl1⟩:=h;have hi2:=pn2 (v:=(rs.length:Int)) (by omega) (by omega);have hq4:=pn4 (v:=q) (by omega) hq.2;obtain⟨b1,b2,b3,b4⟩:=ZQ (k:=3) (c:=(rs.length:Int)) (q:=q) (Y:=z8 rs) hi2 hq4 (by omega) (by omega);refine Vx w rs q h1 hB hG hl b1 b2 b3 (fun i hi=>?_) rfl hq hr hl1 hi2 hq4;have e:(qc (zm 3 (rs.length:Int) q++z8 rs)).drop (12+i*2)=((qc (zm 3 (rs.length:Int) q++z8 rs)).drop 12).drop (2*i):=by rw[List.drop_drop];congr 1;omega
 show Zn (((qc (zm 3 (rs.length:Int) q++z8 rs)).drop (12+i*2)).take 2)=_;rw[e,b4,acj hr.2 _ i hi];have hm:rs.getD i 0∈rs:=by
  rw[List.getD_eq_getElem?_getD,List.getElem?_eq_getElem hi];exact List.getElem_mem hi
 have hg:=hr.2 _ hm;exact j3 _ _ (by omega) (fun e=>by have:=jP hg;rw[e] at this;simp at this)
theorem acE {ts:List (Int×Bool)}(h: ∀x∈ts,0≤x.1∧x.1<2048)(Z:List Int): ∀i,i<ts.length→((zE ts++Z).drop (3*i)).take 3=Xw (ts.getD i (0,false)):=by
 induction ts with
 |nil=>intro i hi;simp at hi
 |cons x r ih=>
  intro i hi;have hx:(Xw x).length=3:=by unfold Xw;rw[List.length_append,jP (h x (by simp))];rfl
  have e:zE (x::r)=Xw x++zE r:=by unfold zE;rw[List.flatMap_cons]
  rw[e,List.append_assoc]
  cases i with
  |zero=>rw[Nat.mul_zero,List.drop_zero,List.take_append_of_le_length (by omega),List.take_of_length_le (by omega)];rfl
  |succ i=>
   rw[show 3*(i+1)=(Xw x).length+3*i by omega,List.drop_append,List.drop_eq_nil_of_le (by omega),List.nil_append,Nat.add_sub_cancel_left];exact ih (fun y hy=>h y (by simp[hy])) i (by simpa using hi)
theorem acm (w:World){lo hi:Nat}{a:Value}{tL tM tK:TypeId}{vL vM vK:Value}{q:Int}{ts:List (Int×Bool)}(h:(FB.des q ts).ok)(h1:zr w lo hi .u8 a (FB.des q ts).bs)(hG:jl w tL tM tK vL vM vK):
  Calls Tryz.prog 153 #[a] w fun e w'=> ∃g,e= .returned (.tuple #[.agg #[zb 106,zb 108,zb 111,zb 103,za 2,za (ts.length:Int),za q,.slice (some (zd g)) ts.length ts.length],.nilIface])∧w.heap.size≤g∧qq w' g 176 (qN ts)∧Chg 0 0 w w':=by
 have hB:=FB.byt h;have hl:=FB.len h;obtain⟨hq,hr,hl1⟩:=h;have hi2:=pn2 (v:=(ts.length:Int)) (by omega) (by omega);have hq4:=pn4 (v:=q) (by omega) hq.2;obtain⟨b1,b2,b3,b4⟩:=ZQ (k:=2) (c:=(ts.length:Int)) (q:=q) (Y:=zE ts) hi2 hq4 (by omega) (by omega);refine Xs w ts q h1 hB hG hl b1 b2 b3 (fun i hi=>?_) rfl hq hr hl1 hi2 hq4;have hm:ts.getD i (0,false)∈ts:=by
  rw[List.getD_eq_getElem?_getD,List.getElem?_eq_getElem hi];exact List.getElem_mem hi
 have hg:=Xx hr.2 _ hm;have h2:=jP hg;have e:(qc (zm 2 (ts.length:Int) q++zE ts)).drop (12+i*3)=((qc (zm 2 (ts.length:Int) q++zE ts)).drop 12).drop (3*i):=by rw[List.drop_drop];congr 1;omega
 have h3:((qc (zm 2 (ts.length:Int) q++zE ts)).drop (12+i*3)).take 3=Xw (ts.getD i (0,false)):=by rw[e,b4];exact acE (Xx hr.2) _ i hi
 show Zn (((qc (zm 2 (ts.length:Int) q++zE ts)).drop (12+i*3)).take 2)=_∧(qc (zm 2 (ts.length:Int) q++zE ts)).getD (12+i*3+2) 0=_;generalize ts.getD i (0,false)=t at*;generalize qc (zm 2 (ts.length:Int) q++zE ts)=X at*;unfold Xw at h3;refine⟨?_,?_⟩
 ·have:(X.drop (12+i*3)).take 2=zk t.1 2:=by
   have e2:(X.drop (12+i*3)).take 2=((X.drop (12+i*3)).take 3).take 2:=by rw[List.take_take];congr 1
   rw[e2,h3,List.take_append_of_le_length (by omega),List.take_of_length_le (by omega)]
  rw[this];exact j3 _ _ (by omega) (fun e=>by rw[e] at h2;simp at h2)
 ·have e3:((X.drop (12+i*3)).take 3)[2]?=X[12+i*3+2]?:=by rw[List.getElem?_take_of_lt (by omega),List.getElem?_drop]
  rw[h3,List.getElem?_append_right (by omega),h2] at e3;rw[List.getD_eq_getElem?_getD,←e3];rfl
abbrev Hv:=Int× (Value×List Int)
abbrev hK (e:Hv):List Value:= [za e.1,e.2.1]
def jV (es:List Hv):List Value:=es.flatMap hK
def Qd (w:World) (base:Nat) (v:Value) (es:List Hv):Prop:=w.ownsRow base 61 2 v es.length (jV es)
def NT (w:World) (lo:Nat) (es:List Hv):Prop:= ∀e∈es,zi w lo 5 e.2.1 e.2.2
theorem NT.chg {w w':World}{lo l r:Nat}{es:List Hv}(h:NT w lo es)(c:Chg l r w w')(d:r≤lo∨r≤l∨w.heap.size≤l):NT w' lo es:=
 fun e he=>(h e he).chg c (fun g hg=>by have:=(h e he).lt g hg;omega)
theorem zi.keepH {w w':World}{lo:Nat}{v:Value}{xs:List Int}(h:zi w lo 5 v xs)(hk: ∀(j:Nat) (cur:Array Value) (t:TypeId),t≠61→w.heap[j]?=some (.cells cur t (0,0))→w'.heap[j]?=some (.cells cur t (0,0))):zi w' lo 5 v xs:=
 h.same fun j hj=>by
  obtain⟨cur,hc⟩:=h.elem hj
  exact(hk j cur _ (by decide) hc).trans hc.symm
theorem EY (a b:List Hv):jV (a++b)=jV a++jV b:=by unfold jV;rw[List.flatMap_append]
theorem EZ (qs:List Hv):(jV qs).length=qs.length*2:=by
 induction qs with
 |nil=>rfl
 |cons q r ih=>
  show(hK q++jV r).length=_;rw[List.length_append,ih,List.length_cons];simp;omega
theorem XF (es:List Hv)(k:Nat)(h:k<es.length):(jV es)[k*2]?=some (za es[k].1)∧(jV es)[k*2+1]?=some es[k].2.1:=by
 induction es generalizing k with
 |nil=>simp at h
 |cons e es ih=>
  cases k with
  |zero=>exact⟨rfl,rfl⟩
  |succ k=>
   have h':k<es.length:=by simpa using h
   obtain⟨a,b⟩:=ih k h';have e1:jV (e::es)=hK e++jV es:=rfl;have e2:(k+1)*2=(hK e).length+k*2:=by simp;omega
   have e3:(k+1)*2+1=(hK e).length+(k*2+1):=by simp;omega
   rw[e1,e3,e2,List.getElem?_append_right (by omega),List.getElem?_append_right (by omega),Nat.add_sub_cancel_left,Nat.add_sub_cancel_left];exact⟨a,b⟩
theorem Qd.lt {w:World}{base:Nat}{v:Value}{es:List Hv}(h:Qd w base v es): ∀g,v.ownBlock=some g→base≤g∧g<w.heap.size:=World.ownsRow.lt h
theorem Qd.chg {w w':World}{base l r:Nat}{v:Value}{es:List Hv}(h:Qd w base v es)(c:Chg l r w w')(d:r≤base∨r≤l∨w.heap.size≤l):Qd w' base v es:=by
 obtain⟨h1,h2⟩:=h;refine⟨h1,?_⟩;rcases h2 with h2|⟨g,cap,cur,hv,hg,hh,rr⟩
 ·exact Or.inl h2
 ·have:=(gLt hh);exact Or.inr ⟨g,cap,cur,hv,hg,(c.block g this (by omega)).trans hh,rr⟩
theorem Qd.low {w:World}{base base':Nat}{v:Value}{es:List Hv}(h:Qd w base v es)(hb:base'≤base):Qd w base' v es:=by
 obtain⟨h1,h2⟩:=h;refine⟨h1,?_⟩;rcases h2 with h2|⟨g,cap,cur,hv,hg,rr⟩
 ·exact Or.inl h2
 ·exact Or.inr ⟨g,cap,cur,hv,by omega,rr⟩
theorem Qd.slice {w:World}{base:Nat}{v:Value}{es:List Hv}(h:Qd w base v es): ∃a c,v= .slice a es.length c:=by
 rcases h.2 with⟨e,h0⟩|⟨g,cap,cur,e,_⟩
 ·exact⟨_,_,by rw[h0];exact e⟩
 ·exact⟨_,_,e⟩
theorem Qd.cells {w:World}{base g cp n:Nat}{es:List Hv}(h:Qd w base (.slice (some (zd g)) n cp) es)(k:Nat)(hk:k<es.length):w.cell? ⟨g,k*2,none⟩=some (za es[k].1)∧w.cell? ⟨g,k*2+1,none⟩=some es[k].2.1:=by
 have hn:n=es.length:=by
  rcases h.2 with⟨e,h0⟩|⟨g,cap,cur,e,_⟩
  ·simp at e
  ·simp only[Value.slice.injEq] at e;exact e.2.1
 subst hn;have hl:=EZ es;obtain⟨a,b⟩:=XF es k hk;have c1:=World.ownsRow.cellAt h (k*2) (by omega);have c2:=World.ownsRow.cellAt h (k*2+1) (by omega);exact⟨c1.trans a,c2.trans b⟩
def ads (es:List Hv):Prop:=es.Pairwise fun a b=> ∀g,a.2.1.ownBlock=some g→b.2.1.ownBlock≠some g
structure qj (w:World)(base:Nat)(v:Value)(es:List Hv):Prop where
 row:Qd w base v es
 data:NT w base es
 apart:ads es
theorem qj.zero (w:World)(base:Nat):qj w base (zc) []:=⟨⟨rfl,Or.inl ⟨rfl,rfl⟩⟩,fun _ h=>by simp at h,List.Pairwise.nil⟩
theorem qj.low {w:World}{base base':Nat}{v:Value}{es:List Hv}(h:qj w base v es)(hb:base'≤base):qj w base' v es:=
 ⟨h.row.low hb,fun e he=>(h.data e he).base (fun g hg=>by have:=((h.data e he).lt g hg).1;omega),h.apart⟩
theorem qj.chg {w w':World}{base l r:Nat}{v:Value}{es:List Hv}(h:qj w base v es)(c:Chg l r w w')(d:r≤base∨r≤l∨w.heap.size≤l):qj w' base v es:=
 ⟨h.row.chg c d,h.data.chg c d,h.apart⟩
theorem qj.more {w w1 w2:World}{base g cp n r:Nat}{v dv:Value}{es:List Hv}{q:Int}{xs:List Int}(h:qj w base v es)(hb:base≤w.heap.size)(hd:zi w1 w.heap.size 5 dv xs)(c:Chg 0 0 w w1)
  (ho:Qd w2 base (.slice (some (zd g)) n cp) (es++ [(q,dv,xs)])) (_c2:Chg base r (w1.alloc (.cells #[za q,dv] 61)) w2)
  (hk: ∀(j:Nat) (cur:Array Value) (t:TypeId),t≠61→(w1.alloc (.cells #[za q,dv] 61)).heap[j]?=some (.cells cur t (0,0))→w2.heap[j]?=some (.cells cur t (0,0))):
  qj w2 base (.slice (some (zd g)) n cp) (es++ [(q,dv,xs)]):=by
 have cA:Chg 0 0 w1 (w1.alloc (.cells #[za q,dv] 61)):=Chg.alloc (Chg.refl 0 0 w1) _;refine⟨ho,fun e he=>?_,?_⟩
 ·rcases List.mem_append.1 he with r|r
  ·exact zi.keepH (((h.data e r).chg c (fun g _=>by omega)).chg cA (fun g _=>by omega)) hk
  ·obtain rfl:=List.mem_singleton.1 r;exact zi.keepH ((hd.base (fun g hg=>by have:=(hd.lt g hg).1;omega)).chg cA (fun g _=>by omega)) hk
 ·refine List.pairwise_append.2 ⟨h.apart,List.pairwise_singleton _ _,fun a ha b hb' g h1 h2=>?_⟩;obtain rfl:=List.mem_singleton.1 hb';have:=((h.data a ha).lt g h1).2;have:=(hd.lt g h2).1;omega
theorem qj.slice {w:World}{base:Nat}{v:Value}{es:List Hv}(h:qj w base v es): ∃a n c,v= .slice a n c:=by
 obtain⟨a,c,e⟩:=h.row.slice;exact⟨_,_,_,e⟩
end Go.Proofs.YtacjklochmelfaaGreatDoor
