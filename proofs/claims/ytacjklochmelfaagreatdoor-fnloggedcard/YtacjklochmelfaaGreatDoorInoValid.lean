import Derived.Test.YtacjklochmelfaaGreatDoorBitSpec
import Derived.Test.YtacjklochmelfaaGreatDoorPutByt
import Derived.Test.YtacjklochmelfaaGreatDoorRows
import Derived.Test.YtacjklochmelfaaGreatDoorRowsE
import Derived.Test.YtacjklochmelfaaGreatDoorCells2
import Derived.Test.YtacjklochmelfaaGreatDoorTxnBase
import Derived.Deep.DeepCutAuto
namespace Go.Proofs.YtacjklochmelfaaGreatDoor
open Go.RowKit
set_option maxRecDepth 100000
set_option maxHeartbeats 16000000
def jK (x:Int) (r:Nat) (on:Bool):Int:=
 if decide (x.toNat/2^r % 2=1)=on then x else if on then x+2^r else x-2^r
def ZJ (xs:List Int) (i:Int) (on:Bool):List Int:=if Jy xs i then xs.set (i.toNat/8) (jK (xs.getD (i.toNat/8) 0) (i.toNat % 8) on) else []
theorem J9 {xs:List Int}{m:Nat}{on:Bool}(h:Jy xs m):ZJ xs m on=xs.set (m/8) (jK (xs.getD (m/8) 0) (m % 8) on):=by unfold ZJ;rw[if_pos h];simp
theorem abD {xs:List Int}{i:Int}{on:Bool}(h: ¬Jy xs i):ZJ xs i on= []:=by unfold ZJ;rw[if_neg h]
theorem EH {x r:Nat}(hx:x<256)(hr:r<8)(h: ¬x/2^r % 2=1):x+2^r<256:=by
 match r,hr with
 |0,_|1,_|2,_|3,_|4,_|5,_|6,_|7,_=>simp at h⊢;omega
theorem Ki {x r:Nat}(hr:r<8)(h:x/2^r % 2=1):2^r≤x:=by
 match r,hr with
 |0,_|1,_|2,_|3,_|4,_|5,_|6,_|7,_=>simp at h⊢;omega
theorem aaU {r:Nat}(hr:r<8):2^r≤128:=by
 match r,hr with
 |0,_|1,_|2,_|3,_|4,_|5,_|6,_|7,_=>simp
theorem VZ {x r:Nat}(h: ¬x/2^r % 2=1):jK x r true=((x+2^r:Nat):Int):=by unfold jK;rw[if_neg (by simpa using h)];simp
theorem Yv {x r:Nat}(hr:r<8)(h:x/2^r % 2=1):jK x r false=((x-2^r:Nat):Int):=by
 have:=Ki hr h;unfold jK;rw[if_neg (by simpa using h),Int.ofNat_sub this];simp
theorem Jd {x r:Nat}{on:Bool}(h:decide (x/2^r % 2=1)=on):jK x r on=x:=by unfold jK;rw[if_pos (by simpa using h)]
theorem zi.at {w:World}{base:Nat}{e:TypeId}{v:Value}{xs:List Int}(h:zi w base e v xs)(hn:0<xs.length): ∃g cap,v= .slice (some (zd g)) xs.length cap∧base≤g∧g<w.heap.size:=by
 have hb:=h.lt;obtain⟨_,h2⟩:=h;rcases h2 with⟨_,h0⟩|⟨g,cap,cur,rfl,hg,_⟩
 ·omega
 ·exact⟨g,cap,rfl,hg,(hb g rfl).2⟩
theorem zi.putAt {w:World}{base g n cap:Nat}{e:TypeId}{xs:List Int}(h:zi w base e (.slice (some (zd g)) n cap) xs)(hn:xs.length=n)(i:Nat)(x:Int):
  zi (w.setCell ⟨g,i,none⟩ (zb x)) base e (.slice (some (zd g)) n cap) (xs.set i x):=by
 subst hn;have:=(World.ownsRow.stored h i (zb x)).1;unfold zi at*;rw[List.length_set,List.map_set];exact this
theorem YS (w:World)(xs:List Int)(m:Nat)(on:Bool)(lo hi b off cap:Nat)(hB:Byt xs)(hl:xs.length≤2048)(hm:m<8*xs.length)
  (hV:zr w lo hi .u8 (.slice (some ⟨b,off,none⟩) xs.length cap) xs):
  Calls Tryz.prog 45 #[.slice (some ⟨b,off,none⟩) xs.length cap,za m,.bool on] w fun e w'=> ∃v,e= .returned v∧zi w' w.heap.size 5 v (xs.set (m/8) (jK (xs.getD (m/8) 0) (m % 8) on))∧Chg 0 0 w w':=by
 have hb:=hB.getD (m/8);obtain⟨y,hy⟩: ∃y:Nat,xs.getD (m/8) 0=y:=⟨(xs.getD (m/8) 0).toNat,by omega⟩;have HF:Hid (aay xs m=decide (y/2^ (m % 8) % 2=1)):=by show _=_;rw[NX ⟨hl,by omega,by omega⟩];unfold EX;rw[hy];rfl
 have HV:Hid (zr w lo hi .u8 (.slice (some ⟨b,off,none⟩) xs.length cap) xs):=hV;have HY:Hid (xs.getD (m/8) 0=y):=hy;rw[hy] at hb⊢;have hq:((m/8:Nat):Int)<(xs.length:Int):=by omega
 have e1: ¬(2048:Int)<(xs.length:Int):=by omega
 have e2: ¬((m:Int))<0:=by omega
 have e3: ¬8*(xs.length:Int)≤(m:Int):=by omega
 have hr:m % 8<8:=by omega
 have hN:=ZM w (by omega) hV;clear hy hV;go_enter Tryz.func45,Tryz.ntmps45;go_wp2_with fail;refine hN.mono ?_;rintro e w1 ⟨v,rfl,ov,hc⟩;have HC:Hid (Chg 0 0 w w1):=hc;obtain⟨g,gcap,rfl,hg,hg'⟩:=ov.at (by omega);have HO:Hid (zi w1 w.heap.size 5 (.slice (some (zd g)) xs.length gcap) xs):=ov;clear hN ov hc;obtain⟨r,Hr⟩: ∃r:Nat,Hid (m % 8=r):=⟨_,rfl⟩;have hmr:((m:Int) % 8)=(r:Int):=by have:=Hr.out;omega
 rw[Hr.out] at HF hr;have hmr':m % 8=r:=Hr.out;have hpw:=aaU hr;have HG:Hid (y/2^r % 2=1→2^r≤y):=fun h=>Ki hr h;have HU:Hid (¬y/2^r % 2=1→y+2^r<256):=fun h=>EH (by omega) hr h;have C1:w1.cell? ⟨g,m/8,none⟩=some (zb y):=by
  have:=World.ownsRow.cellAt HO.out (m/8) (by omega);rw[this,List.getElem?_map];have e:xs[m/8]?=some (y:Int):=by
   have:=HY.out;rw[List.getD_eq_getElem?_getD] at this;rw[List.getElem?_eq_getElem (by omega)] at this⊢;exact congrArg some this
  rw[e];rfl
 have C2:w1.frozen? ⟨g,m/8,none⟩=false:=World.ownsRow.frozenAt HO.out (m/8);have hC:=XT w1 m hB (by omega) (HV.out.chg HC.out (by omega));rw[HF.out] at hC;have HS:Hid (∀z:Nat,zi (w1.setCell ⟨g,m/8,none⟩ (zb z)) w.heap.size 5 (.slice (some (zd g)) xs.length gcap) (xs.set (m/8) z)):=fun z=>HO.out.putAt rfl (m/8) z;have HCS:Hid (∀z:Nat,Chg 0 0 w (w1.setCell ⟨g,m/8,none⟩ (zb z))):=fun z=>HC.out.setCell (Or.inr hg) _
 have HSame:Hid (xs.set (m/8) (y:Int)=xs):=by
  show _=_;refine List.ext_getElem? fun i=>?_;by_cases e:i=m/8
  ·subst e;rw[List.getElem?_set_self (by omega)];have:=HY.out;rw[List.getD_eq_getElem?_getD,List.getElem?_eq_getElem (by omega)] at this;rw[List.getElem?_eq_getElem (by omega)];exact congrArg some this.symm
  ·rw[List.getElem?_set_ne (fun h=>e h.symm)]
 go_wp2;generalize hP:2^r=P at*;have HP:Hid (2^r=P):=hP;clear hP;go_loopw [8,9] (fun u k wr=>wr=w1∧ ∃j:Nat,j≤r∧k=za ((r-j:Nat):Int)∧u=zb ((2^j:Nat):Int)) (fun _ k _=>(intOf k).toNat)
 case atStart=>exact⟨rfl,0,Nat.zero_le _,by rw[hmr];simp,by simp⟩
 case round=>
  obtain⟨rfl,j,hj,rfl,rfl⟩:=hrel;by_cases hlt:j<r
  ·have hp:(0:Int)<((r-j:Nat):Int):=by omega
   have hz:2^j≤64:=by
    have:j<7:=by omega
    match j,this with
    |0,_|1,_|2,_|3,_|4,_|5,_|6,_=>simp
   have Hs:Hid (2^j*2=2^ (j+1)):=(Nat.pow_succ 2 j).symm;generalize 2^j=z at*;generalize hrj:r-j=d at*;have Hd:Hid (r-j=d):=hrj;have hdb:d≤8:=by omega
   clear hrj hC;go_wp2;go_roundw
   case rel=>exact⟨trivial,j+1,by omega,by have:=Hd.out;congr 1;omega,by rw[←Hs.out];go_num⟩
   case measure=>simp[intOf];omega
  ·obtain rfl:j=r:=by omega
   rw[Nat.sub_self,HP.out];go_wp2_with fail;refine hC.mono ?_;rintro e w2 ⟨rfl,rfl⟩;clear hC;by_cases hbit:y/P % 2=1
   ·have hPy:P≤y:=HG.out hbit;have Hz:Hid (jK y j false=((y-P:Nat):Int)):=by show _=_;rw[←HP.out];exact Yv hr (by rw[HP.out];exact hbit)
    have Ho:Hid (jK y j true=(y:Int)):=Jd (by rw[HP.out];simpa using hbit);rw[decide_eq_true hbit];clear hbit
    cases on with
    |true=>
     go_wp2;go_ret;exact⟨_,rfl,by rw[Hr.out,Ho.out,HSame.out];exact HO.out,HC.out⟩
    |false=>
     have hsub:(y:Int)-(P:Int)=((y-P:Nat):Int):=by omega
     go_wp2;go_ret;refine⟨_,rfl,by rw[Hr.out,Hz.out];exact HS.out _,HCS.out _⟩
   ·have hPy:y+P<256:=HU.out hbit;have Hz:Hid (jK y j true=((y+P:Nat):Int)):=by show _=_;rw[←HP.out];exact VZ (by rw[HP.out];exact hbit)
    have Ho:Hid (jK y j false=(y:Int)):=Jd (by rw[HP.out];simpa using hbit);rw[decide_eq_false hbit];clear hbit
    cases on with
    |true=>
     go_wp2;go_ret;refine⟨_,rfl,by rw[Hr.out,Hz.out];exact HS.out _,HCS.out _⟩
    |false=>
     go_wp2;go_ret;exact⟨_,rfl,by rw[Hr.out,Ho.out,HSame.out];exact HO.out,HC.out⟩
theorem KV (w:World)(n:Nat)(ao:Option Addr)(cap:Nat)(i:Int)(on:Bool)(hl:n≤1048576)(ho: ¬(n≤2048∧0≤i∧i<8*(n:Int))):
  Calls Tryz.prog 45 #[.slice ao n cap,za i,.bool on] w fun e w'=> ∃v,e= .returned v∧zi w' w.heap.size 5 v []∧Chg 0 0 w w':=by
 have H0:Hid (zi (w.alloc (.cells #[] 5)) w.heap.size 5 (.slice (some (zd w.heap.size)) 0 0) []):=
  ⟨rfl,Or.inr ⟨w.heap.size,0,#[],rfl,Nat.le_refl _,zh w _,Nat.le_refl _,Nat.zero_le _,rfl,rfl⟩⟩
 have HC:Hid (Chg 0 0 w (w.alloc (.cells #[] 5))):=Chg.alloc (Chg.refl 0 0 w) _;by_cases h0:n≤2048
 ·by_cases h1:i<0
  ·go_enter Tryz.func45,Tryz.ntmps45;go_wp2;go_ret;exact⟨_,rfl,H0.out,HC.out⟩
  ·have h2:8*(n:Int)≤i:=by omega
   clear ho;go_enter Tryz.func45,Tryz.ntmps45;go_wp2;go_ret;exact⟨_,rfl,H0.out,HC.out⟩
 ·have h1:(2048:Int)<(n:Int):=by omega
  clear ho;go_enter Tryz.func45,Tryz.ntmps45;go_wp2;go_ret;exact⟨_,rfl,H0.out,HC.out⟩
theorem Qr (w:World){lo hi:Nat}{a:Value}{xs:List Int}(i:Int)(on:Bool)(hB:Byt xs)(hl:xs.length≤1048576)(h1:zr w lo hi .u8 a xs):
  Calls Tryz.prog 45 #[a,za i,.bool on] w fun e w'=> ∃v,e= .returned v∧zi w' w.heap.size 5 v (ZJ xs i on)∧Chg 0 0 w w':=by
 have hV:=h1;obtain⟨ao,cap,rfl,_,_,h1⟩:=h1;by_cases ho:Jy xs i
 ·obtain⟨m,rfl⟩: ∃m:Nat,i=m:=⟨i.toNat,by have:=ho.2.1;omega⟩;rw[J9 ho];have h3:=ho.2.2;rcases h1 with rfl|⟨x,off,rfl,_,_,h1⟩
  ·simp at h3;omega
  ·exact YS w xs m on lo hi x off cap hB ho.1 (by omega) hV
 ·rw[abD ho];exact KV w xs.length ao cap i on hl ho
structure Ino where
 kind:Int
 links:Int
 size:Int
 dir:List Int
 ind:Int
abbrev acT (i:Ino) (ao:Option Addr) (cap:Nat):Value:= .agg #[za i.kind,za i.links,za i.size,.slice ao i.dir.length cap,za i.ind]
abbrev Vg (t:TypeId) (i:Ino) (ao:Option Addr) (cap:Nat):Obj:= .cells #[za i.kind,za i.links,za i.size,.slice ao i.dir.length cap,za i.ind] t
theorem Jm {w:World}{s:Nat}{a b c d e:Value}{t:TypeId}(h:w.heap[s]?=some (.cells #[a,b,c,d,e] t (0,0))):
  (w.cell? (zd s)=some a∧w.cell? ⟨s,1,none⟩=some b∧w.cell? ⟨s,2,none⟩=some c∧w.cell? ⟨s,3,none⟩=some d∧w.cell? ⟨s,4,none⟩=some e)∧
   w.frozen? (zd s)=false∧w.frozen? ⟨s,1,none⟩=false∧w.frozen? ⟨s,2,none⟩=false∧w.frozen? ⟨s,3,none⟩=false∧w.frozen? ⟨s,4,none⟩=false:=by
 simp[World.cell?,World.frozen?,h]
def Q3 (x:Int):Bool:=decide (0≤x)&&decide (x<2048)
theorem ZP {x:Int}:Q3 x=true↔0≤x∧x<2048:=by unfold Q3;simp
def je (i:Ino):List Int:=i.dir++ [i.ind]
def qv (i:Ino) (k:Nat):Prop:=if i.size≤(k:Int)*64 then(je i).getD k 0=0 else i.kind=1∨(je i).getD k 0≠0
def Zd (xs:List Int):Nat→Int
 |0=>0
 |k+1=>Zd xs k+xs.getD k 0
def Ji (i:Ino):Prop:=i.dir.length=8∧0≤i.size∧i.size≤2560∧0≤i.links∧i.links≤8
def J7 (i:Ino):Prop:=(i.kind=1∨(i.kind=2∧i.links=1∧i.size % 16=0)∨(i.kind=3∧1≤i.size∧i.size≤240))∧(∀k,k<9→qv i k)∧(1≤i.links∨i.kind=1)
def abx (i:Ino):Prop:=Ji i∧(∀x∈je i,Q3 x=true)∧if i.kind=0 then i.size+i.links+Zd (je i) 9=0 else J7 i
def jz (i:Ino):Bool:=decide ((i.dir.length=8∧0≤i.size∧i.size≤2560∧0≤i.links∧i.links≤8)∧(∀x∈je i,Q3 x=true)∧if i.kind=0 then i.size+i.links+Zd (je i) 9=0 else (i.kind=1∨(i.kind=2∧i.links=1∧i.size % 16=0)∨(i.kind=3∧1≤i.size∧i.size≤240))∧(∀k:Nat,k<9→if i.size≤(k:Int)*64 then(je i).getD k 0=0 else i.kind=1∨(je i).getD k 0≠0)∧(1≤i.links∨i.kind=1))
theorem jzi {i:Ino}:jz i=true↔abx i:=decide_eq_true_iff
theorem Ko {i:Ino}(h: ¬abx i):jz i=false:=by rw[Bool.eq_false_iff];exact fun e=>h (jzi.1 e)
theorem acz {xs:List Int}(h: ∀x∈xs,Q3 x=true): ∀k,k≤xs.length→0≤Zd xs k∧Zd xs k≤2048*k:=by
 intro k
 induction k with
 |zero=>intro _;exact⟨Int.le_refl _,Int.le_refl _⟩
 |succ k ih=>
  intro hk;have h1:=ih (by omega);have h2:=ZP.1 (h (xs.getD k 0) (by rw[List.getD_eq_getElem?_getD,List.getElem?_eq_getElem (by omega)];exact List.getElem_mem (by omega)));unfold Zd;omega
theorem UL (w:World)(i:Ino)(ao:Option Addr)(cap:Nat)(hl:i.dir.length≤1048576)(hx: ¬(i.dir.length=8∧0≤i.size∧i.size≤2560∧0≤i.links∧i.links≤8)):
  Calls Tryz.prog 76 #[acT i ao cap] w fun e w'=>e= .returned (.bool false)∧Chg 0 0 w w':=by
 have HA:Hid (Chg 0 0 w (w.alloc (Vg 104 i ao cap))):=Chg.alloc (Chg.refl 0 0 w) _;obtain⟨K,L,Z,ds,I⟩:=i;simp only at*;by_cases e1:ds.length=8
 ·have hb:((ds.length:Int) !=8)=false:=by simp;omega
  have hx': ¬(0≤Z∧Z≤2560∧0≤L∧L≤8):=fun h=>hx ⟨e1,h⟩;clear hx e1;by_cases e2:Z<0
  ·clear hx';go_enter Tryz.func76,Tryz.ntmps76;go_wp2;go_ret;exact⟨rfl,HA.out⟩
  by_cases e3:2560<Z
  ·clear hx';go_enter Tryz.func76,Tryz.ntmps76;go_wp2;go_ret;exact⟨rfl,HA.out⟩
  by_cases e4:L<0
  ·clear hx';go_enter Tryz.func76,Tryz.ntmps76;go_wp2;go_ret;exact⟨rfl,HA.out⟩
  have e5:8<L:=by omega
  clear hx';go_enter Tryz.func76,Tryz.ntmps76;go_wp2;go_ret;exact⟨rfl,HA.out⟩
 ·have hb:((ds.length:Int) !=8)=true:=by simp;omega
  clear hx e1;go_enter Tryz.func76,Tryz.ntmps76;go_wp2;go_ret;exact⟨rfl,HA.out⟩
theorem NJ (w:World){lo hi:Nat}(i:Ino)(ao:Option Addr)(cap:Nat)(hh:Ji i)(hV:zr w lo hi .i64 (.slice ao i.dir.length cap) i.dir):
  Calls Tryz.prog 76 #[acT i ao cap] w fun e w'=>e= .returned (.bool (jz i))∧Chg 0 0 w w':=by
 obtain⟨d8,z0,z1,l0,l1⟩:=id hh;have HH:Hid (Ji i):=hh;have HLa:Hid ((je i).length=9):=by show _=_;unfold je;simp[d8]
 have HAll:Hid (je i=i.dir++ [i.ind]):=rfl;have HP:Hid (abx i↔Ji i∧(∀x∈je i,Q3 x=true)∧if i.kind=0 then i.size+i.links+Zd (je i) 9=0 else J7 i):=Iff.rfl;have HRest:Hid (J7 i↔ (i.kind=1∨(i.kind=2∧i.links=1∧i.size % 16=0)∨(i.kind=3∧1≤i.size∧i.size≤240))∧(∀k,k<9→qv i k)∧(1≤i.links∨i.kind=1)):=Iff.rfl;have HBody:Hid (∀k,qv i k↔if i.size≤(k:Int)*64 then(je i).getD k 0=0 else i.kind=1∨(je i).getD k 0≠0):=fun k=>Iff.rfl
 have HB:Hid ((w.alloc (Vg 104 i ao cap)).heap[w.heap.size]?=some (.cells #[za i.kind,za i.links,za i.size,.slice ao i.dir.length cap,za i.ind] 104 (0,0))):=zh w _;have s0:(w.alloc (Vg 104 i ao cap)).heap.size=w.heap.size+1:=by simp
 have HC0:Hid (Chg 0 0 w ((w.alloc (Vg 104 i ao cap)).alloc (.cells #[] 2))):=(Chg.alloc (Chg.refl 0 0 w) _).alloc _;have HO0:Hid (zP ((w.alloc (Vg 104 i ao cap)).alloc (.cells #[] 2)) (w.heap.size+1) 2 (.slice (some (zd (w.heap.size+1))) 0 0) []):=by
  have:=zP.none0 (w.alloc (Vg 104 i ao cap));rw[s0] at this;exact this
 have HB0:Hid (((w.alloc (Vg 104 i ao cap)).alloc (.cells #[] 2)).heap[w.heap.size]?=some (.cells #[za i.kind,za i.links,za i.size,.slice ao i.dir.length cap,za i.ind] 104 (0,0))):=((Chg.alloc (Chg.refl 0 0 (w.alloc (Vg 104 i ao cap))) (.cells #[] 2)).block w.heap.size (by omega) (by omega)).trans HB.out;have HV0:Hid (zr ((w.alloc (Vg 104 i ao cap)).alloc (.cells #[] 2)) lo hi .i64 (.slice ao i.dir.length cap) i.dir):=hV.chg HC0.out (by omega)
 have s1:((w.alloc (Vg 104 i ao cap)).alloc (.cells #[] 2)).heap.size=w.heap.size+2:=by simp
 have Hd8:Hid (i.dir.length=8):=d8;have hb8:((i.dir.length:Int) !=8)=false:=by simp;omega
 have e2: ¬i.size<0:=by omega
 have e3: ¬2560<i.size:=by omega
 have e4: ¬i.links<0:=by omega
 have e5: ¬8<i.links:=by omega
 have hdl:i.dir.length≤8:=by omega
 clear hV d8 hh;go_enter Tryz.func76,Tryz.ntmps76;go_wp2_with (at_builtin;refine QP rfl (.tmp 33) (.tmp 35) rfl (w.heap.size+1) _ [] rfl HO0.out (by simp) _ _ _ i.dir rfl HV0.out (by rw[Hd8.out];omega) (by rw[Hd8.out];simp) ?_);intro v1 w1 o1 c1;have B1:w1.heap[w.heap.size]?=some (.cells #[za i.kind,za i.links,za i.size,.slice ao i.dir.length cap,za i.ind] 104 (0,0)):=(c1.block w.heap.size (by simp;omega) (by omega)).trans HB0.out
 have HC1:Hid (Chg 0 0 w w1):=HC0.out.step c1 (Or.inr (Or.inl (by omega)));have z1':=HC1.out.size;have zz:w.heap.size<w1.heap.size:=(gLt B1);obtain⟨g1,cp1,rfl,hg1,hg1'⟩:=o1.at (by rw[Hd8.out];omega);obtain⟨⟨x0,x1,x2,x3,x4⟩,_⟩:=Jm B1;have HCA:Hid (Chg 0 0 w (w1.alloc (.cells #[za i.ind] 2))):=HC1.out.alloc _;have HOA:Hid (zP (w1.alloc (.cells #[za i.ind] 2)) (w.heap.size+1) 2 (.slice (some (zd g1)) i.dir.length cp1) i.dir):=o1.chg ((Chg.refl 0 0 w1).alloc _) (by intro g _;omega)
 have HBA:Hid ((w1.alloc (.cells #[za i.ind] 2)).heap[w.heap.size]?=some (.cells #[za i.kind,za i.links,za i.size,.slice ao i.dir.length cap,za i.ind] 104 (0,0))):=((Chg.alloc (Chg.refl 0 0 w1) _).block w.heap.size zz (by omega)).trans B1;have HVA:Hid (zr (w1.alloc (.cells #[za i.ind] 2)) 0 (w1.heap.size+1) .i64 (.slice (some (zd w1.heap.size)) 1 1) [i.ind]):=by
  refine⟨_,1,rfl,by simp,⟨by simp,by simp⟩,Or.inr ⟨w1.heap.size,0,rfl,Nat.zero_le _,by omega,fun j hj=>?_⟩⟩;obtain rfl:j=0:=by simpa using hj
  have hh:=zh w1 (.cells #[za i.ind] 2);simp only[World.cell?,hh];rfl
 clear o1 c1 HO0 HB0 HV0 HB;go_wp2_with (at_builtin;refine QP rfl (.tmp 37) (.tmp 40) rfl (w.heap.size+1) _ i.dir rfl HOA.out (by simp;omega) _ _ _ [i.ind] rfl HVA.out (by simp) (by rw[Hd8.out];simp) ?_);intro v2 w2 o2 c2;have B2:w2.heap[w.heap.size]?=some (.cells #[za i.kind,za i.links,za i.size,.slice ao i.dir.length cap,za i.ind] 104 (0,0)):=(c2.block w.heap.size (by simp;omega) (by omega)).trans HBA.out
 have HC2:Hid (Chg 0 0 w w2):=HCA.out.step c2 (Or.inr (Or.inl (by omega)));rw[←HAll.out] at o2;obtain⟨g2,cp2,rfl,hg2,hg2'⟩:=o2.at (by rw[HLa.out];omega);have HCell:Hid (∀j,j<9→w2.cell? ⟨g2,j,none⟩=some (za ((je i).getD j 0))):=fun j hj=>o2.cell rfl j (by rw[HLa.out];exact hj);have HMem:Hid (∀j,j<9→(je i).getD j 0∈je i):=fun j hj=>by rw[List.getD_eq_getElem?_getD,List.getElem?_eq_getElem (by rw[HLa.out];exact hj)];exact List.getElem_mem _
 have HB2:Hid (w2.heap[w.heap.size]?=some (.cells #[za i.kind,za i.links,za i.size,.slice ao i.dir.length cap,za i.ind] 104 (0,0))):=B2;clear x0 x1 x2 x3 x4 B1;obtain⟨⟨x0,x1,x2,x3,x4⟩,_⟩:=Jm B2;rw[HLa.out];clear o2 c2 HOA HBA HVA B2;go_wp2;go_loopw [4,5] (fun sm x wr=>wr=w2∧ ∃k:Nat,k≤9∧x=za k∧sm=za (i.size+i.links+Zd (je i) k)∧ ∀j,j<k→Q3 ((je i).getD j 0)=true) (fun _ x _=>9-(intOf x).toNat)
 case atStart=>exact⟨rfl,0,by omega,rfl,by simp[Zd],by omega⟩
 case round=>
  obtain⟨rfl,k,hk,rfl,rfl,hR⟩:=hrel;by_cases hlt:k<9
  ·have c1:=HCell.out k hlt;have hi:(k:Int)<9:=by omega
   by_cases hg:Q3 ((je i).getD k 0)=true
   ·have HI:Hid (∀j,j<k+1→Q3 ((je i).getD j 0)=true):=by
     intro j hj;by_cases e:j=k
     ·subst e;exact hg
     ·exact hR j (by omega)
    have HS:Hid (Zd (je i) (k+1)=Zd (je i) k+(je i).getD k 0):=rfl;have hN:=qB wr ((je i).getD k 0);rw[show(decide (0≤(je i).getD k 0)&&decide ((je i).getD k 0<2048))=true from hg] at hN;obtain⟨g0,g1⟩:=ZP.1 hg;have hsb:0≤Zd (je i) k∧Zd (je i) k≤2048*9:=by
     have: ∀m,m≤k→0≤Zd (je i) m∧Zd (je i) m≤2048*m:=by
      intro m
      induction m with
      |zero=>intro _;exact⟨Int.le_refl _,Int.le_refl _⟩
      |succ m ih=>
       intro hm;have h1:=ih (by omega);have h2:=ZP.1 (hR m (by omega));unfold Zd;omega
     have:=this k (Nat.le_refl _);omega
    generalize (je i).getD k 0=y at*;generalize Zd (je i) k=sm at*;clear hR hg;go_wp2_with fail;refine hN.mono ?_;rintro e w3 ⟨rfl,rfl⟩;clear hN;go_wp2;go_roundw
    case rel=>exact⟨trivial,k+1,by omega,by go_num,by rw[HS.out];congr 1;omega,HI.out⟩
    case measure=>simp[intOf];omega
   ·have Hn:Hid (jz i=false):=Ko (fun h=>hg (h.2.1 _ (HMem.out k hlt)));have hN:=qB wr ((je i).getD k 0);rw[show(decide (0≤(je i).getD k 0)&&decide ((je i).getD k 0<2048))=false from by rw[Bool.not_eq_true] at hg;exact hg] at hN;generalize (je i).getD k 0=y at*;clear hR hg;go_wp2_with fail;refine hN.mono ?_;rintro e w3 ⟨rfl,rfl⟩;clear hN;go_wp2;go_ret;exact⟨by rw[Hn.out];rfl,HC2.out⟩
  ·obtain rfl:k=9:=by omega
   have hgood: ∀x∈je i,Q3 x=true:=by
    intro x hx;obtain⟨j,hj,rfl⟩:=List.mem_iff_getElem.1 hx;have:=hR j (by rw[HLa.out] at hj;exact hj);rw[List.getD_eq_getElem?_getD,List.getElem?_eq_getElem hj] at this;exact this
   have HX:Hid (jz i=true↔if i.kind=0 then i.size+i.links+Zd (je i) 9=0 else J7 i):=by
    show _↔_;rw[jzi,HP.out];exact⟨fun h=>h.2.2,fun h=>⟨HH.out,hgood,h⟩⟩
   have hsb:=acz hgood 9 (by rw[HLa.out];omega);clear hR hgood;by_cases hk0:i.kind=0
   ·rw[if_pos hk0] at HX;have hb0:(i.kind==0)=true:=by simpa using hk0
    generalize Zd (je i) 9=sm at*;by_cases hz:i.size+i.links+sm=0
    ·have Hn:Hid (jz i=true):=HX.out.2 hz;have hzb:(i.size+i.links+sm==0)=true:=by simpa using hz
     clear hz hk0;go_wp2;go_ret;exact⟨by rw[Hn.out];rfl,HC2.out⟩
    ·have Hn:Hid (jz i=false):=by show _=_;rw[Bool.eq_false_iff];exact fun h=>hz (HX.out.1 h)
     have hzb:(i.size+i.links+sm==0)=false:=by simpa using hz
     clear hz hk0;go_wp2;go_ret;exact⟨by rw[Hn.out];rfl,HC2.out⟩
   ·rw[if_neg hk0] at HX;have hb0:(i.kind==0)=false:=by simpa using hk0
    generalize Zd (je i) 9=sm at*;clear hk0 hsb;by_cases hk1:i.kind=1
    ·have HK:Hid (i.kind=1):=hk1;have hb1:(i.kind==1)=true:=by simpa using hk1
     have hn1:(i.kind !=1)=false:=by simpa using hk1
     have HT:Hid (jz i=true↔ (∀k,k<9→qv i k)∧(1≤i.links∨i.kind=1)):=by
      show _↔_;rw[HX.out,HRest.out];exact⟨fun h=>h.2,fun h=>⟨Or.inl hk1,h⟩⟩
     clear hk1;go_wp2;go_loopw [7] (fun x w3=>w3=wr∧ ∃k:Nat,k≤9∧x=za k∧ ∀j,j<k→qv i j) (fun x _=>9-(intOf x).toNat)
     case atStart=>exact⟨rfl,0,by omega,rfl,by omega⟩
     case round=>
      obtain⟨rfl,k,hk,rfl,hR⟩:=hrel;by_cases hlt:k<9
      ·have c1:=HCell.out k hlt;have hi:(k:Int)≤8:=by omega
       have HBk:=HBody.out k;have HNx:Hid (qv i k→ ∀j,j<k+1→qv i j):=by
        intro h j hj;by_cases e:j=k
        ·subst e;exact h
        ·exact hR j (by omega)
       have HNo:Hid (¬qv i k→jz i=false):=fun h=>by rw[Bool.eq_false_iff];exact fun h'=>h ((HT.out.1 h').1 k hlt)
       generalize (je i).getD k 0=y at*;clear hR;by_cases hbz:i.size≤(k:Int)*64
       ·rw[if_pos hbz] at HBk;by_cases hy:y=0
        ·have HX2:Hid (∀j,j<k+1→qv i j):=HNx.out (HBk.2 hy);subst hy;clear HBk HNx HNo;go_wp2;go_roundw
         case rel=>exact⟨trivial,k+1,by omega,by go_num,HX2.out⟩
         case measure=>simp[intOf];omega
        ·have Hn:Hid (jz i=false):=HNo.out (fun h=>hy (HBk.1 h));have hyb:(y !=0)=true:=by simpa using hy
         clear HBk HNx HNo hy;go_wp2;go_ret;exact⟨by rw[Hn.out];rfl,HC2.out⟩
       ·rw[if_neg hbz] at HBk;have HX2:Hid (∀j,j<k+1→qv i j):=HNx.out (HBk.2 (Or.inl HK.out));clear HBk HNx HNo;go_wp2;go_roundw
        case rel=>exact⟨trivial,k+1,by omega,by go_num,HX2.out⟩
        case measure=>simp[intOf];omega
      ·obtain rfl:k=9:=by omega
       have HF:Hid (jz i=true↔ (1≤i.links∨i.kind=1)):=⟨fun h=>(HT.out.1 h).2,fun h=>HT.out.2 ⟨fun j hj=>hR j hj,h⟩⟩;clear hR;have Hn:Hid (jz i=true):=HF.out.2 (Or.inr HK.out);by_cases hL:1≤i.links
       ·go_wp2;go_ret;exact⟨by rw[Hn.out];rfl,HC2.out⟩
       ·go_wp2;go_ret;exact⟨by rw[Hn.out];rfl,HC2.out⟩
    ·have HK:Hid (¬i.kind=1):=hk1;have hb1:(i.kind==1)=false:=by simpa using hk1
     have hn1:(i.kind !=1)=true:=by simpa using hk1
     by_cases hk2:i.kind=2
     ·have hb2:(i.kind==2)=true:=by simpa using hk2
      by_cases hL1:i.links=1
      ·have hlb:(i.links !=1)=false:=by simpa using hL1
       by_cases hm:i.size % 16=0
       ·have hmb:(i.size % 16 !=0)=false:=by simpa using hm
        have HT:Hid (jz i=true↔ (∀k,k<9→qv i k)∧(1≤i.links∨i.kind=1)):=by
         show _↔_;rw[HX.out,HRest.out];exact⟨fun h=>h.2,fun h=>⟨Or.inr (Or.inl ⟨hk2,hL1,hm⟩),h⟩⟩
        clear hk1 hk2 hL1 hm;go_wp2;go_loopw [7] (fun x w3=>w3=wr∧ ∃k:Nat,k≤9∧x=za k∧ ∀j,j<k→qv i j) (fun x _=>9-(intOf x).toNat)
        case atStart=>exact⟨rfl,0,by omega,rfl,by omega⟩
        case round=>
         obtain⟨rfl,k,hk,rfl,hR⟩:=hrel;by_cases hlt:k<9
         ·have c1:=HCell.out k hlt;have hi:(k:Int)≤8:=by omega
          have HBk:=HBody.out k;have HNx:Hid (qv i k→ ∀j,j<k+1→qv i j):=by
           intro h j hj;by_cases e:j=k
           ·subst e;exact h
           ·exact hR j (by omega)
          have HNo:Hid (¬qv i k→jz i=false):=fun h=>by rw[Bool.eq_false_iff];exact fun h'=>h ((HT.out.1 h').1 k hlt)
          generalize (je i).getD k 0=y at*;clear hR;by_cases hbz:i.size≤(k:Int)*64
          ·rw[if_pos hbz] at HBk;by_cases hy:y=0
           ·have HX2:Hid (∀j,j<k+1→qv i j):=HNx.out (HBk.2 hy);subst hy;clear HBk HNx HNo;go_wp2;go_roundw
            case rel=>exact⟨trivial,k+1,by omega,by go_num,HX2.out⟩
            case measure=>simp[intOf];omega
           ·have Hn:Hid (jz i=false):=HNo.out (fun h=>hy (HBk.1 h));have hyb:(y !=0)=true:=by simpa using hy
            clear HBk HNx HNo hy;go_wp2;go_ret;exact⟨by rw[Hn.out];rfl,HC2.out⟩
          ·rw[if_neg hbz] at HBk;by_cases hy:y=0
           ·have Hn:Hid (jz i=false):=HNo.out (fun h=>(HBk.1 h).elim (fun h=>HK.out h) (fun h=>h hy));subst hy;clear HBk HNx HNo;go_wp2;go_ret;exact⟨by rw[Hn.out];rfl,HC2.out⟩
           ·have HX2:Hid (∀j,j<k+1→qv i j):=HNx.out (HBk.2 (Or.inr hy));have hyb:(y==0)=false:=by simpa using hy
            clear HBk HNx HNo hy;go_wp2;go_roundw
            case rel=>exact⟨trivial,k+1,by omega,by go_num,HX2.out⟩
            case measure=>simp[intOf];omega
         ·obtain rfl:k=9:=by omega
          have HF:Hid (jz i=true↔ (1≤i.links∨i.kind=1)):=⟨fun h=>(HT.out.1 h).2,fun h=>HT.out.2 ⟨fun j hj=>hR j hj,h⟩⟩;clear hR;by_cases hL:1≤i.links
          ·have Hn:Hid (jz i=true):=HF.out.2 (Or.inl hL);go_wp2;go_ret;exact⟨by rw[Hn.out];rfl,HC2.out⟩
          ·have Hn:Hid (jz i=false):=by show _=_;rw[Bool.eq_false_iff];exact fun h=>(HF.out.1 h).elim hL HK.out
           go_wp2;go_ret;exact⟨by rw[Hn.out];rfl,HC2.out⟩
       ·have Hn:Hid (jz i=false):=by
         show _=_;rw[Bool.eq_false_iff];intro h;rcases(HRest.out.1 (HX.out.1 h)).1 with h|⟨_,_,h⟩|⟨h,_⟩
         ·exact hk1 h
         ·exact hm h
         ·omega
        have hmb:(i.size % 16 !=0)=true:=by simpa using hm
        clear hk1 hk2 hL1 hm;go_wp2;go_ret;exact⟨by rw[Hn.out];rfl,HC2.out⟩
      ·have Hn:Hid (jz i=false):=by
        show _=_;rw[Bool.eq_false_iff];intro h;rcases(HRest.out.1 (HX.out.1 h)).1 with h|⟨_,h,_⟩|⟨h,_⟩
        ·exact hk1 h
        ·exact hL1 h
        ·omega
       have hlb:(i.links !=1)=true:=by simpa using hL1
       clear hk1 hk2 hL1;go_wp2;go_ret;exact⟨by rw[Hn.out];rfl,HC2.out⟩
     ·have hb2:(i.kind==2)=false:=by simpa using hk2
      by_cases hk3:i.kind=3
      ·have hb3:(i.kind==3)=true:=by simpa using hk3
       by_cases hs1:i.size<1
       ·have Hn:Hid (jz i=false):=by
         show _=_;rw[Bool.eq_false_iff];intro h;rcases(HRest.out.1 (HX.out.1 h)).1 with h|⟨h,_⟩|⟨_,h,_⟩
         ·exact hk1 h
         ·exact hk2 h
         ·omega
        clear hk1 hk2 hk3;go_wp2;go_ret;exact⟨by rw[Hn.out];rfl,HC2.out⟩
       by_cases hs2:240<i.size
       ·have Hn:Hid (jz i=false):=by
         show _=_;rw[Bool.eq_false_iff];intro h;rcases(HRest.out.1 (HX.out.1 h)).1 with h|⟨h,_⟩|⟨_,_,h⟩
         ·exact hk1 h
         ·exact hk2 h
         ·omega
        clear hk1 hk2 hk3;go_wp2;go_ret;exact⟨by rw[Hn.out];rfl,HC2.out⟩
       have HT:Hid (jz i=true↔ (∀k,k<9→qv i k)∧(1≤i.links∨i.kind=1)):=by
        show _↔_;rw[HX.out,HRest.out];exact⟨fun h=>h.2,fun h=>⟨Or.inr (Or.inr ⟨hk3,by omega,by omega⟩),h⟩⟩
       clear hk1 hk2 hk3;go_wp2;go_loopw [7] (fun x w3=>w3=wr∧ ∃k:Nat,k≤9∧x=za k∧ ∀j,j<k→qv i j) (fun x _=>9-(intOf x).toNat)
       case atStart=>exact⟨rfl,0,by omega,rfl,by omega⟩
       case round=>
        obtain⟨rfl,k,hk,rfl,hR⟩:=hrel;by_cases hlt:k<9
        ·have c1:=HCell.out k hlt;have hi:(k:Int)≤8:=by omega
         have HBk:=HBody.out k;have HNx:Hid (qv i k→ ∀j,j<k+1→qv i j):=by
          intro h j hj;by_cases e:j=k
          ·subst e;exact h
          ·exact hR j (by omega)
         have HNo:Hid (¬qv i k→jz i=false):=fun h=>by rw[Bool.eq_false_iff];exact fun h'=>h ((HT.out.1 h').1 k hlt)
         generalize (je i).getD k 0=y at*;clear hR;by_cases hbz:i.size≤(k:Int)*64
         ·rw[if_pos hbz] at HBk;by_cases hy:y=0
          ·have HX2:Hid (∀j,j<k+1→qv i j):=HNx.out (HBk.2 hy);subst hy;clear HBk HNx HNo;go_wp2;go_roundw
           case rel=>exact⟨trivial,k+1,by omega,by go_num,HX2.out⟩
           case measure=>simp[intOf];omega
          ·have Hn:Hid (jz i=false):=HNo.out (fun h=>hy (HBk.1 h));have hyb:(y !=0)=true:=by simpa using hy
           clear HBk HNx HNo hy;go_wp2;go_ret;exact⟨by rw[Hn.out];rfl,HC2.out⟩
         ·rw[if_neg hbz] at HBk;by_cases hy:y=0
          ·have Hn:Hid (jz i=false):=HNo.out (fun h=>(HBk.1 h).elim (fun h=>HK.out h) (fun h=>h hy));subst hy;clear HBk HNx HNo;go_wp2;go_ret;exact⟨by rw[Hn.out];rfl,HC2.out⟩
          ·have HX2:Hid (∀j,j<k+1→qv i j):=HNx.out (HBk.2 (Or.inr hy));have hyb:(y==0)=false:=by simpa using hy
           clear HBk HNx HNo hy;go_wp2;go_roundw
           case rel=>exact⟨trivial,k+1,by omega,by go_num,HX2.out⟩
           case measure=>simp[intOf];omega
        ·obtain rfl:k=9:=by omega
         have HF:Hid (jz i=true↔ (1≤i.links∨i.kind=1)):=⟨fun h=>(HT.out.1 h).2,fun h=>HT.out.2 ⟨fun j hj=>hR j hj,h⟩⟩;clear hR;by_cases hL:1≤i.links
         ·have Hn:Hid (jz i=true):=HF.out.2 (Or.inl hL);go_wp2;go_ret;exact⟨by rw[Hn.out];rfl,HC2.out⟩
         ·have Hn:Hid (jz i=false):=by show _=_;rw[Bool.eq_false_iff];exact fun h=>(HF.out.1 h).elim hL HK.out
          go_wp2;go_ret;exact⟨by rw[Hn.out];rfl,HC2.out⟩
      ·have Hn:Hid (jz i=false):=by
        show _=_;rw[Bool.eq_false_iff];intro h;rcases(HRest.out.1 (HX.out.1 h)).1 with h|⟨h,_⟩|⟨h,_⟩
        ·exact hk1 h
        ·exact hk2 h
        ·exact hk3 h
       have hb3:(i.kind==3)=false:=by simpa using hk3
       clear hk1 hk2 hk3;go_wp2;go_ret;exact⟨by rw[Hn.out];rfl,HC2.out⟩
theorem Jg (w:World){lo hi:Nat}(i:Ino)(ao:Option Addr)(cap:Nat)(hl:i.dir.length≤1048576)(hV:zr w lo hi .i64 (.slice ao i.dir.length cap) i.dir):
  Calls Tryz.prog 76 #[acT i ao cap] w fun e w'=>e= .returned (.bool (jz i))∧Chg 0 0 w w':=by
 by_cases h:Ji i
 ·exact NJ w i ao cap h hV
 ·rw[Ko (fun h'=>h h'.1)];exact UL w i ao cap hl h
end Go.Proofs.YtacjklochmelfaaGreatDoor
