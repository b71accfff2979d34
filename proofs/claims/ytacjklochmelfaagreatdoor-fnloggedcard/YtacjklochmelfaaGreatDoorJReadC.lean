import Derived.Test.YtacjklochmelfaaGreatDoorCrcMath
import Derived.Laws.BitsAllLaws
import Derived.Test.YtacjklochmelfaaGreatDoorPutByt
import Derived.Deep.DeepCutAuto
import Derived.Test.YtacjklochmelfaaGreatDoorCopyRow
import Derived.Deep.RegionWith
import Derived.Test.YtacjklochmelfaaGreatDoorHeld
import Derived.Test.YtacjklochmelfaaGreatDoorRowZ
import Derived.Test.YtacjklochmelfaaGreatDoorGetI
namespace Go.Proofs.YtacjklochmelfaaGreatDoor
open Go.RowKit
set_option maxRecDepth 100000
set_option maxHeartbeats 16000000
theorem acX (x:Nat)(hx:x<4294967296):bits .and .u32 (x:Int) 1=((x % 2:Nat):Int):=by
 have:=u32_and_nat x 1 hx (by omega);rw[nat_mask1] at this;exact this
theorem acK (x:Nat)(hx:x<4294967296):bits .xor .u32 ((x:Int)/2) 2197175160=((x/2^^^2197175160:Nat):Int):=by
 have:=u32_xor_nat (x/2) 2197175160 (by omega) (by omega);rw[←this];congr 1
theorem Ec (a b:Nat)(ha:a<4294967296)(hb:b<4294967296):bits .xor .i64 (a:Int) (b:Int)=((a^^^b:Nat):Int):=by
 have hx:a^^^b<2^32:=Nat.xor_lt_two_pow (by omega) (by omega);show IntKind.i64.wrap ((BitVec.ofInt 64 (a:Int)^^^BitVec.ofInt 64 (b:Int)).toNat:Int)=_;rw[BitVec.toNat_xor,ofInt_u64 a (by omega),ofInt_u64 b (by omega)];simp[IntKind.wrap,IntKind.bits,IntKind.signed];omega
theorem abr (x:Nat)(hx:x<4294967296):bits .xor .i64 ((x:Int)/2) 2197175160=((x/2^^^2197175160:Nat):Int):=by
 have:=Ec (x/2) 2197175160 (by omega) (by omega);rw[←this];congr 1
theorem adY (a:Nat)(ha:a<4294967296):bits .xor .u32 4294967295 (a:Int)=((4294967295-a:Nat):Int):=by
 show IntKind.u32.wrap ((BitVec.ofInt 32 4294967295^^^BitVec.ofInt 32 (a:Int)).toNat:Int)=_;have h1:BitVec.ofInt 32 4294967295=BitVec.allOnes 32:=by decide
 rw[h1,BitVec.allOnes_xor,BitVec.toNat_not,ofInt_u32 a ha,IntKind.wrap_u32'];omega
theorem XH (w:World)(r:Nat)(hr:r<4294967296):
  Calls Tryz.prog 126 #[.int .u32 r] w fun e w'=>e= .returned (.int .u32 (qI 8 r 0:Nat))∧w'=w:=by
 go_enter Tryz.func126,Tryz.ntmps126;go_wp2;go_loop [0,4] (fun x i=> ∃k:Nat,k≤8∧i=za k∧x= .int .u32 (qI k r 0:Nat)) (fun _ i=>8-(intOf i).toNat)
 case atStart=>exact⟨0,Nat.zero_le _,rfl,rfl⟩
 case round=>
  obtain⟨k,hk,rfl,rfl⟩:=hrel;by_cases hlt:k<8
  ·have b1:=Xt k r 0 hr;have HE:Hid (qI (k+1) r 0=stp (qI k r 0) 0):=acp k r;generalize qI k r 0=x at*;have hi:(k:Int)<8:=by omega
   have hlow:=acX x b1;by_cases h1:x % 2=1
   ·have HX:Hid (((qI (k+1) r 0:Nat):Int)=bits .xor .u32 ((x:Int)/2) 2197175160):=by
     show _=_;rw[HE.out,acK x b1];unfold stp;rw[if_pos (by omega)]
    have hc:(bits .and .u32 (x:Int) 1==1)=true:=by rw[hlow,h1];rfl
    clear hlow h1;go_wp2;go_round
    case rel=>exact⟨k+1,by omega,by go_num,by rw[HX.out]⟩
    case measure=>simp[intOf];omega
   ·have HX:Hid (((qI (k+1) r 0:Nat):Int)=(x:Int)/2):=by
     show _=_;rw[HE.out];unfold stp;rw[if_neg (by omega)];omega
    have hc:(bits .and .u32 (x:Int) 1==1)=false:=by rw[hlow,show x % 2=0 by omega];rfl
    clear hlow h1;go_wp2;go_round
    case rel=>exact⟨k+1,by omega,by go_num,by rw[HX.out]⟩
    case measure=>simp[intOf];omega
  ·obtain rfl:k=8:=by omega
   go_wp2;go_ret;exact⟨rfl,rfl⟩
theorem aa1 (j x d:Nat):qI (j+1) x d=stp (qI j x d) (d/2^j % 2):=by
 rw[V6,V6];rfl
def nb (xs:List Int):List Nat:=xs.map Int.toNat
theorem Qg (x:Nat)(xs:List Int)(k:Nat)(h:k<xs.length):reg x (nb (xs.take (k+1)))=qI 8 (reg x (nb (xs.take k))) (xs.getD k 0).toNat:=by
 unfold reg nb;rw[List.take_succ_eq_append_getElem h,List.map_append,List.foldl_append];simp[List.getD_eq_getElem?_getD,h]
def jW (xs:List Int):Int:=4294967295-(reg 4294967295 (nb xs):Nat)
def JT (c:Int) (xs:List Int):Int:=if c<0∨c>4294967295 then-1 else 4294967295-(reg (4294967295-c.toNat) (nb xs):Nat)
theorem U3 (xs:List Int):JT 0 xs=jW xs:=by
 unfold JT jW;rw[if_neg (by omega)];rfl
theorem pn2 {v:Int}(h0:0≤v)(h1:v<65536):(zk v 2).length=2:=by
 unfold zk;rw[if_neg (by omega),if_neg (by rw[show(256:Int)^ (2:Int).toNat=65536 from rfl];omega),qw];rfl
theorem pn4 {v:Int}(h0:0≤v)(h1:v≤4294967295):(zk v 4).length=4:=by
 unfold zk;rw[if_neg (by omega),if_neg (by rw[show(256:Int)^ (4:Int).toNat=4294967296 from rfl];omega),qw];rfl
theorem qp (xs:List Int):0≤jW xs∧jW xs≤4294967295:=by
 have hlt:=Je (nb xs) 4294967295 (by omega);unfold jW;omega
theorem Uc (X A:List Value)(z:Value)(n o:Nat)(ho:o=X.length):splice (X++List.replicate n z) o A=X++A++List.replicate (n-A.length) z:=by
 subst ho;unfold splice;rw[List.take_left,List.drop_append,List.drop_eq_nil_of_le (by omega),List.nil_append,Nat.add_sub_cancel_left,List.drop_replicate,List.append_assoc]
def ja (Y:List Int):List Value:=(qc Y).map (Value.int .u8)
theorem Z7 (Y:List Int):ja Y=Y.map (Value.int .u8)++List.replicate (64-Y.length) (zb 0):=by
 unfold ja qc;rw[List.map_append,List.map_replicate]
theorem qQ {Y:List Int}(h:Y.length≤64):(ja Y).length=64:=by rw[Z7];simp;omega
theorem Qm (Y:List Int): ∀v∈ja Y,v.oneCell'=true:=by unfold ja;exact ints_oneCell _ _
theorem XG (Y A:List Int):splice (ja Y) Y.length (A.map (Value.int .u8))=ja (Y++A):=by
 rw[Z7,Z7,Uc _ _ _ _ _ (by simp),List.map_append,List.length_map,List.length_append];congr 2;omega
theorem VP {Y:List Int}(h:Y.length<64):ja Y=ja (Y++ [0]):=by
 rw[Z7,Z7,List.map_append,List.append_assoc,List.length_append];congr 1;rw[show 64-Y.length=(64-(Y.length+1))+1 by omega,List.replicate_succ];rfl
theorem abO {Y:List Int}(h:Y.length<64)(x:Int):(ja Y).set Y.length (zb x)=ja (Y++ [x]):=by
 rw[VP h,Z7,Z7,List.map_append,List.map_append,List.append_assoc,List.append_assoc,List.set_append_right _ _ (by simp)];simp
theorem aax (k c q:Int):XD 106 108 111 103 k c q=zm k c q++List.replicate 52 0:=by
 unfold XD zm mg;simp
theorem qX {k c q:Int}(hc:(zk c 2).length=2)(hq:(zk q 4).length=4):(zm k c q).length=12:=by
 unfold zm mg;simp[hc,hq]
theorem XE {k c q:Int}(hc:(zk c 2).length=2)(hq:(zk q 4).length=4):(XD 106 108 111 103 k c q).map (Value.int .u8)=ja (zm k c q):=by
 rw[aax,Z7,List.map_append,List.map_replicate,qX hc hq]
abbrev jO (t:TypeId) (k c q:Int) (lv:Value):Obj:= .cells #[zb 106,zb 108,zb 111,zb 103,za k,za c,za q,lv] t
def Xw (t:Int×Bool):List Int:=zk t.1 2++ [if t.2 then 1 else 0]
def zE (ts:List (Int×Bool)):List Int:=ts.flatMap Xw
theorem Qs {ts:List (Int×Bool)}(h: ∀x∈ts,0≤x.1∧x.1<2048):(zE ts).length=3*ts.length:=by
 unfold zE
 induction ts with
 |nil=>rfl
 |cons x r ih=>
  rw[List.flatMap_cons,List.length_append,ih (fun y hy=>h y (by simp[hy])),List.length_cons];unfold Xw;rw[List.length_append,jP (h x (by simp))];simp;omega
theorem J6 {ts:List (Int×Bool)}{k:Nat}(h:k<ts.length):zE (ts.take (k+1))=zE (ts.take k)++Xw (ts.getD k (0,false)):=by
 unfold zE;rw[List.take_succ_eq_append_getElem h,List.flatMap_append];simp[List.getD_eq_getElem?_getD,h]
theorem Xx {ts:List (Int×Bool)}(h: ∀x∈ts.map (·.1),0≤x∧x<2048): ∀x∈ts,0≤x.1∧x.1<2048:=fun x hx=>h x.1 (List.mem_map.2 ⟨x,hx,rfl⟩)
theorem Ue (ts:List (Int×Bool))(k:Nat):(ts.map (·.1)).getD k 0=(ts.getD k (0,false)).1:=by
 simp only[List.getD_eq_getElem?_getD,List.getElem?_map]
 cases ts[k]?<;>rfl
abbrev ab1 (h0 h1 h2 h3 kd it sq:Int):Value:= .agg #[zb h0,zb h1,zb h2,zb h3,za kd,za it,za sq]
theorem jZ (w:World)(h0 h1 h2 h3 kd it sq:Int):
  Calls Tryz.prog 107 #[ab1 h0 h1 h2 h3 kd it sq] w fun e w'=>e= .returned (za it)∧Chg 0 0 w w':=by
 have HC:Hid (Chg 0 0 w (w.alloc (.cells #[zb h0,zb h1,zb h2,zb h3,za kd,za it,za sq] 138))):=Chg.alloc (Chg.refl 0 0 w) _;go_enter Tryz.func107,Tryz.ntmps107;go_wp2;go_ret;exact⟨rfl,HC.out⟩
theorem Zr (w:World)(h0 h1 h2 h3 kd it sq l m:Int)(a1:1≤sq)(a2:sq≤4294967295)(a3:l≤it)(a4:it≤m):
  Calls Tryz.prog 162 #[ab1 h0 h1 h2 h3 kd it sq,za l,za m] w fun e w'=>e= .returned .nilIface∧Chg 0 0 w w':=by
 have HC:Hid (Chg 0 0 w (w.alloc (.cells #[zb h0,zb h1,zb h2,zb h3,za kd,za it,za sq] 138))):=Chg.alloc (Chg.refl 0 0 w) _;have c1: ¬sq<1:=by omega
 have c2: ¬4294967295<sq:=by omega
 have c3: ¬it<l:=by omega
 have c4: ¬m<it:=by omega
 go_enter Tryz.func162,Tryz.ntmps162;go_wp2;go_ret;exact⟨rfl,HC.out⟩
theorem eight {w:World}{s:Nat}{a0 a1 a2 a3 a4 a5 a6 a7:Value}{t:TypeId}(h:w.heap[s]?=some (.cells #[a0,a1,a2,a3,a4,a5,a6,a7] t (0,0))):
  w.cell? (zd s)=some a0∧w.cell? ⟨s,1,none⟩=some a1∧w.cell? ⟨s,2,none⟩=some a2∧w.cell? ⟨s,3,none⟩=some a3∧w.cell? ⟨s,4,none⟩=some a4∧w.cell? ⟨s,5,none⟩=some a5∧w.cell? ⟨s,6,none⟩=some a6∧w.cell? ⟨s,7,none⟩=some a7:=by
 simp[World.cell?,h]
theorem JK (w:World)(h0 h1 h2 h3 kd it sq st:Int)(a1:1≤sq)(a2:sq≤4294967295)(a3:16≤it)(a4:it≤512)(a5:0≤st)(a6:st≤it):
  Calls Tryz.prog 197 #[.agg #[zb h0,zb h1,zb h2,zb h3,za kd,za it,za sq,za st]] w fun e w'=>e= .returned .nilIface∧Chg 0 0 w w':=by
 have HC:Hid (Chg 0 0 w (w.alloc (.cells #[zb h0,zb h1,zb h2,zb h3,za kd,za it,za sq,za st] 182))):=Chg.alloc (Chg.refl 0 0 w) _;have HB:Hid ((w.alloc (.cells #[zb h0,zb h1,zb h2,zb h3,za kd,za it,za sq,za st] 182)).heap[w.heap.size]?=some (.cells #[zb h0,zb h1,zb h2,zb h3,za kd,za it,za sq,za st] 182 (0,0))):=zh _ _;obtain⟨k0,k1,k2,k3,k4,k5,k6,k7⟩:=eight HB.out;have c1:decide (st<0)=false:=decide_eq_false (by omega)
 have c2: ¬it<st:=by omega
 go_enter Tryz.func197,Tryz.ntmps197;go_wp2;generalize w.alloc (.cells #[zb h0,zb h1,zb h2,zb h3,za kd,za it,za sq,za st] 182)=w0 at*;have hN:=jZ w0.drew h0 h1 h2 h3 kd it sq;go_region_with (go_at_call 107;refine hN.mono ?_;rintro e w1 ⟨rfl,h1'⟩;have y7:=h1'.cell (show w0.drew.cell? ⟨w.heap.size,7,none⟩=_ from k7) (by omega))
 all_goals
  have HB1:Hid (w1.heap[w.heap.size]?=some (.cells #[zb h0,zb h1,zb h2,zb h3,za kd,za it,za sq,za st] 182 (0,0))):=(h1'.block w.heap.size (zF k0) (by omega)).trans HB.out
  have HC1:Hid (Chg 0 0 w w1):=HC.out.drew.trans h1'
  obtain⟨y0,y1,y2,y3,y4,y5,y6,y7⟩:=eight HB1.out
  clear h1'
  go_wp2_with fail
  refine(Zr _ h0 h1 h2 h3 kd it sq 16 512 a1 a2 a3 a4).mono ?_
  rintro e w2 ⟨rfl,h2'⟩
  have HC2:Hid (Chg 0 0 w w2):=HC1.out.trans h2'
  clear h2'
  go_wp2
  go_ret
  exact⟨rfl,HC2.out⟩
theorem abo (w:World)(a b c d k i q s:Int)(h:1≤q∧q≤4294967295∧1≤i∧i≤511)(hs:0≤s∧s≤4294967295):
  Calls Tryz.prog 195 #[.agg #[zb a,zb b,zb c,zb d,za k,za i,za q,za s]] w fun e w'=>e= .returned .nilIface∧Chg 0 0 w w':=by
 have q1: ¬s<0:=by omega
 have q2: ¬s>4294967295:=by omega
 have hO:=fun W=>Zr W a b c d k i q 1 511 h.1 h.2.1 h.2.2.1 h.2.2.2;have HC: ∀o,Chg 0 0 w (w.alloc o):=fun o=>Chg.alloc (Chg.refl 0 0 w) o;go_enter Tryz.func195,Tryz.ntmps195;go_wp2_with (go_at_call 162;refine(hO _).mono ?_;rintro e w' ⟨rfl,hc⟩);go_ret;exact⟨rfl,(HC _).trans hc⟩
theorem Kl (w:World)(l n:Int)(h:l<n∧n<2048):Calls Tryz.prog 92 #[za l,za n] w fun e w'=>e= .returned (.bool true)∧w'=w:=by
 have h1:n>l:=h.1;have h2:n<2048:=h.2;go_enter Tryz.func92,Tryz.ntmps92;go_wp2;go_ret;exact⟨rfl,rfl⟩
def K7 (xs:List Int):Prop:=(∀i,i+1<xs.length→xs.getD i 0<xs.getD (i+1) 0)∧ ∀x∈xs,0≤x∧x<2048
theorem abq (w:World)(k q:Int){lo hi:Nat}{ao:Option Addr}{cap:Nat}{xs:List Int}(hv:zr w lo hi .i64 (.slice ao xs.length cap) xs)(hr:K7 xs)(hl:1≤xs.length∧xs.length≤26)(h:1≤q∧q≤4294967295):
  Calls Tryz.prog 201 #[.agg #[zb 106,zb 108,zb 111,zb 103,za k,za (xs.length:Int),za q,.slice ao xs.length cap]] w fun e w'=>e= .returned .nilIface∧Chg 0 0 w w':=by
 have hO:=fun W=>Zr W 106 108 111 103 k xs.length q 1 26 (by omega) (by omega) (by omega) (by omega);have HC:Hid (∀o,Chg 0 0 w (w.alloc o)):=fun o=>Chg.alloc (Chg.refl 0 0 w) o;go_enter Tryz.func201,Tryz.ntmps201;obtain⟨b0,off,rfl,hcell⟩: ∃b off,ao=some ⟨b,off,none⟩∧ ∀i,i<xs.length→w.cell? ⟨b,off+i,none⟩=some (za (xs.getD i 0)):=by
  obtain⟨_,_,e,_,_,h⟩:=hv;injection e with e1 e2 e3;subst e1;rcases h with h|⟨b,off,e,_,_,h⟩
  ·rw[h] at hl;simp at hl
  ·exact⟨b,off,e,h⟩
 have hA:Chg 0 0 w (w.alloc (jO 191 k xs.length q (.slice (some ⟨b0,off,none⟩) xs.length cap))):=HC.out _;clear hv;go_wp2_with fail;have hbx:=zh w (jO 191 k xs.length q (.slice (some ⟨b0,off,none⟩) xs.length cap));have hbw:b0<w.heap.size:=zF (hcell 0 (by omega));go_loopw [9,3,5] (fun x l _ wr=> ∃i:Nat,i≤xs.length∧x=za i∧l=za (if i=0 then-1 else xs.getD (i-1) 0)∧wr=w.alloc (jO 191 k xs.length q (.slice (some ⟨b0,off,none⟩) xs.length cap))) (fun x _ _ _=>xs.length-(RowKit.intOf x).toNat)
 case atStart=>exact⟨0,Nat.zero_le _,rfl,rfl,rfl⟩
 case round=>
  obtain⟨i,hi,rfl,rfl,rfl⟩:=hrel;by_cases hlt:i<xs.length
  ·have hi':(i:Int)<(xs.length:Int):=by omega
   have c0:=hA.cell (hcell i hlt) (by omega);have hx:(if i=0 then-1 else xs.getD (i-1) 0)<xs.getD i 0∧xs.getD i 0<2048:=by
    have hm:xs.getD i 0∈xs:=by rw[List.getD_eq_getElem?_getD,List.getElem?_eq_getElem hlt];exact List.getElem_mem hlt
    have:=hr.2 _ hm;refine⟨?_,this.2⟩;by_cases h0:i=0
    ·rw[if_pos h0];omega
    ·rw[if_neg h0];have:=hr.1 (i-1) (by omega);rw[Nat.sub_add_cancel (by omega)] at this;exact this
   have hF:=fun W=>Kl W _ _ hx;have HN:Hid (xs.getD i 0=if i+1=0 then-1 else xs.getD (i+1-1) 0):=by show _=_;rw[if_neg (by omega),Nat.add_sub_cancel]
   generalize (if i=0 then-1 else xs.getD (i-1) 0)=l at*;generalize xs.getD i 0=x at*;clear hx;go_wp2_with (go_at_call 92;refine(hF _).mono ?_;rintro e w' ⟨rfl,hw'⟩;obtain rfl:=hw'.symm);go_roundw
   case rel=>exact⟨i+1,by omega,by go_num,by rw[←HN.out],by first|rfl|trivial⟩
   case measure=>simp[RowKit.intOf];omega
  ·have hi': ¬(i:Int)<(xs.length:Int):=by omega
   go_wp2_with (go_at_call 162;refine(hO _).mono ?_;rintro e w' ⟨rfl,hc⟩);go_ret;exact⟨rfl,hA.trans hc⟩
abbrev ad5 (t:Int×Bool):Obj:= .cells #[za t.1,.bool t.2] 176
theorem abp (w:World)(k q:Int){b off cap:Nat}{ts:List (Int×Bool)}(hcell: ∀i,i<ts.length→w.cell? ⟨b,off+i*2,none⟩=some (za (ts.getD i (0,false)).1)∧w.cell? ⟨b,off+i*2+1,none⟩=some (.bool (ts.getD i (0,false)).2))(hr:K7 (ts.map Prod.fst))(hl:1≤ts.length∧ts.length≤17)(h:1≤q∧q≤4294967295):
  Calls Tryz.prog 202 #[.agg #[zb 106,zb 108,zb 111,zb 103,za k,za (ts.length:Int),za q,.slice (some ⟨b,off,none⟩) ts.length cap]] w fun e w'=>e= .returned .nilIface∧Chg 0 0 w w':=by
 have hO:=fun W=>Zr W 106 108 111 103 k ts.length q 1 17 (by omega) (by omega) (by omega) (by omega);have hA:Chg 0 0 w (w.alloc (jO 219 k ts.length q (.slice (some ⟨b,off,none⟩) ts.length cap))):=Chg.alloc (Chg.refl 0 0 w) _;have hbx:=zh w (jO 219 k ts.length q (.slice (some ⟨b,off,none⟩) ts.length cap));have hbw:b<w.heap.size:=zF (hcell 0 (by omega)).1;have HX:Hid (∀wr,Chg 0 0 (w.alloc (jO 219 k ts.length q (.slice (some ⟨b,off,none⟩) ts.length cap))) wr→wr.heap[w.heap.size]?=some (.cells #[zb 106,zb 108,zb 111,zb 103,za k,za ts.length,za q,.slice (some ⟨b,off,none⟩) ts.length cap] 219 (0,0))):=fun wr c=>(c.block _ (by simp) (by omega)).trans hbx
 go_enter Tryz.func202,Tryz.ntmps202;go_wp2_with fail;go_loopw [9,3] (fun x l wr=> ∃i:Nat,i≤ts.length∧x=za i∧l=za (if i=0 then-1 else(ts.getD (i-1) (0,false)).1)∧Chg 0 0 (w.alloc (jO 219 k ts.length q (.slice (some ⟨b,off,none⟩) ts.length cap))) wr) (fun x _ _=>ts.length-(RowKit.intOf x).toNat)
 case atStart=>exact⟨0,Nat.zero_le _,rfl,rfl,Chg.refl 0 0 _⟩
 case round=>
  obtain⟨i,hi,rfl,rfl,hch⟩:=hrel;have hcw:=hA.trans hch;clear hbx;by_cases hlt:i<ts.length
  ·have hi':(i:Int)<(ts.length:Int):=by omega
   obtain⟨c0,c1⟩:=hcell i hlt;replace c0:=hcw.cell c0 (by omega);replace c1:=hcw.cell c1 (by omega);have hx:(if i=0 then-1 else(ts.getD (i-1) (0,false)).1)<(ts.getD i (0,false)).1∧(ts.getD i (0,false)).1<2048:=by
    have e: ∀j,j<ts.length→(ts.map Prod.fst).getD j 0=(ts.getD j (0,false)).1:=fun j hj=>by simp[List.getD_eq_getElem?_getD,hj]
    have hm:(ts.getD i (0,false)).1∈ts.map Prod.fst:=List.mem_map.2 ⟨_,by rw[List.getD_eq_getElem?_getD,List.getElem?_eq_getElem hlt];exact List.getElem_mem hlt,rfl⟩;have:=hr.2 _ hm;refine⟨?_,this.2⟩;by_cases h0:i=0
    ·rw[if_pos h0];omega
    ·rw[if_neg h0];have:=hr.1 (i-1) (by rw[List.length_map];omega);rw[Nat.sub_add_cancel (by omega),e _ (by omega),e _ hlt] at this;exact this
   have hF:=fun W=>Kl W _ _ hx;have HN:Hid ((ts.getD i (0,false)).1=if i+1=0 then-1 else(ts.getD (i+1-1) (0,false)).1):=by show _=_;rw[if_neg (by omega),Nat.add_sub_cancel]
   generalize (if i=0 then-1 else(ts.getD (i-1) (0,false)).1)=l at*;generalize ts.getD i (0,false)=t at*;clear hx;have HCN:Hid (Chg 0 0 (w.alloc (jO 219 k ts.length q (.slice (some ⟨b,off,none⟩) ts.length cap))) (wr.alloc (ad5 t))):=hch.alloc _;clear hch hcw;go_wp2_with (go_at_call 92;refine(hF _).mono ?_;rintro e w' ⟨rfl,hw'⟩;obtain rfl:=hw'.symm);go_roundw
   case rel=>exact⟨i+1,by omega,by go_num,by rw[←HN.out],HCN.out⟩
   case measure=>simp[RowKit.intOf];omega
  ·have hi': ¬(i:Int)<(ts.length:Int):=by omega
   have hbx:=HX.out wr hch;have HCW:Hid (Chg 0 0 w wr):=hcw;have d0:wr.cell? (zd w.heap.size)=some (zb 106):=by simp[World.cell?,hbx]
   have d1:wr.cell? ⟨w.heap.size,1,none⟩=some (zb 108):=by simp[World.cell?,hbx]
   have d2:wr.cell? ⟨w.heap.size,2,none⟩=some (zb 111):=by simp[World.cell?,hbx]
   have d3:wr.cell? ⟨w.heap.size,3,none⟩=some (zb 103):=by simp[World.cell?,hbx]
   have d4:wr.cell? ⟨w.heap.size,4,none⟩=some (za k):=by simp[World.cell?,hbx]
   have d5:wr.cell? ⟨w.heap.size,5,none⟩=some (za ts.length):=by simp[World.cell?,hbx]
   have d6:wr.cell? ⟨w.heap.size,6,none⟩=some (za q):=by simp[World.cell?,hbx]
   clear hbx hch hcw;go_wp2_with (go_at_call 162;refine(hO _).mono ?_;rintro e w' ⟨rfl,hc⟩);go_ret;exact⟨rfl,HCW.out.trans hc⟩
theorem QY (w:World)(c q s:Int)(hi:c≤9223372036854775807)(hq:q≤9223372036854775807)(hs:s≤9223372036854775807)(hi2:(zk c 2).length=2)(hq4:(zk q 4).length=4)(hs4:(zk s 4).length=4):
  Calls Tryz.prog 64 #[.agg #[zb 106,zb 108,zb 111,zb 103,za 4,za c,za q,za s]] w fun e w'=>e= .returned (.agg ((qc (zm 4 c q++zk s 4)).map (Value.int .u8)).toArray)∧Chg 0 0 w w':=by
 have Hs4:Hid ((zk s 4).length=4):=hs4;clear hs4;have hN:=fun w=>Z6 w 106 108 111 103 4 c q (by omega) (by omega) hi hq hi2 hq4;have Hi2:Hid ((zk c 2).length=2):=hi2;have Hq4:Hid ((zk q 4).length=4):=hq4;rw[XE hi2 hq4] at hN;have HY:Hid ((zm 4 c q).length=12):=qX hi2 hq4;obtain⟨bs,Hbs⟩: ∃bs,Hid (bs=ja (zm 4 c q)):=⟨_,rfl⟩;have Hbl:Hid (bs.length=64):=by show _=_;rw[Hbs.out];exact qQ (by rw[HY.out];omega)
 have HV:Hid (∀v∈bs,v.oneCell'=true):=by show∀v∈bs,v.oneCell'=true;rw[Hbs.out];exact Qm _
 rw[←Hbs.out] at hN;have hib:(Tryz.prog.info? 72).map (·.size)=some bs.length:=by rw[Hbl.out];kernel_rfl
 obtain⟨z1,z2,z3⟩:=zN w (jO 140 4 c q (za s)) (.cells Z64.toArray 72);have hA:Chg 0 0 w ((w.alloc (jO 140 4 c q (za s))).alloc (.cells Z64.toArray 72)):=(Chg.alloc (Chg.refl 0 0 w) _).alloc _;have HZ:Hid (((w.alloc (jO 140 4 c q (za s))).alloc (.cells Z64.toArray 72)).heap.size=w.heap.size+2∧((w.alloc (jO 140 4 c q (za s))).alloc (.cells Z64.toArray 72)).heap[w.heap.size]?=some (jO 140 4 c q (za s))∧((w.alloc (jO 140 4 c q (za s))).alloc (.cells Z64.toArray 72)).heap[w.heap.size+1]?=some (.cells Z64.toArray 72)∧Chg 0 0 w ((w.alloc (jO 140 4 c q (za s))).alloc (.cells Z64.toArray 72))):=⟨z1,z2,z3,hA⟩
 clear z1 z2 z3 hA hi2 hq4;go_enter Tryz.func64,Tryz.ntmps64;go_wp2_with fail;simp only[zM];generalize ((w.alloc (jO 140 4 c q (za s))).alloc (.cells Z64.toArray 72))=wa at*;refine(hN wa).mono ?_;rintro e w2 ⟨rfl,hc2⟩;have HE:Hid (Enc w (w2.alloc (.cells Z64.toArray 72)) w2.heap.size (jO 140 4 c q (za s)) Z64):=by
  obtain⟨z1,z2,z3,hA⟩:=HZ.out;have s2:=hc2.size;have hc3:Chg 0 0 wa (w2.alloc (.cells Z64.toArray 72)):=hc2.alloc _;exact⟨(hc3.block _ (by omega) (by omega)).trans z2,(hc3.block _ (by omega) (by omega)).trans z3,zh _ _,by omega,hA.trans hc3⟩
 clear hN hc2 HZ;have hg:=HE.out.b2;rw[←zM] at hg;have Hg:Hid (_=_):=hg;clear hg;go_upto_region 2 with(first
  |(refine wpList_store_row rfl 72 (.tmp 3) (.tmp 6) rfl rfl w2.heap.size rfl bs _ 72 rfl Hg.out (by rw[Hbl.out];rfl) hib HV.out ?_;intro w3 hb3 hc3))
 simp only[zM] at hc3;clear Hg;have HE3:Hid _:=HE.out.put hc3 hb3;have hlo:=HE3.out.lo;generalize w2.heap.size=N at*;clear hb3 hc3 HE;rw[Hbs.out] at HE3;clear Hbs Hbl HV hib;go_cut [11] (fun _ wx=>Enc w wx N (jO 140 4 c q (za s)) (ja (zm 4 c q++zk s 4)))
 case first=>
  have HB1:Hid _:=HE3.out.chg (Chg.drew (Chg.refl 0 0 w3));have HS0:Hid ((fun w':World=>w'.cell? ⟨w.heap.size,7,none⟩=some (za s)) w3.drew):=by
   have hb:=HB1.out.b0;show _=_;simp[World.cell?,hb]
  refine zp (fun w':World=>w'.cell? ⟨w.heap.size,7,none⟩=some (za s)) (by kernel_rfl) ?_;refine hTk 0 (.slice (some ⟨N,12,none⟩) 52 52) rfl (fun w' hw'=>by go_simp) HS0.out ?_;go_simp;refine hTk 1 (.pointer (some ⟨w.heap.size,7,none⟩)) rfl (fun w' hw'=>by go_simp) HS0.out ?_;go_simp;refine hTk 2 (za s) rfl (fun w' hw'=>by have h4:w'.cell? _=_:=hw';go_simp) HS0.out ?_;go_simp;generalize w3.drew=x1 at*
  have hlt:=HB1.out.lt;have hN:=jc x1 s 4 (by omega);refine zg 3 rfl rfl (by kernel_rfl) ?_;refine zl 104 #[za s,za 4] (by first|kernel_rfl|go_simp) hN ?_;rintro e x2 ⟨r,rfl,o2,c2⟩;have HB2:Hid _:=HB1.out.chg c2;have HS2:Hid _:=c2.cell HS0.out (by omega);obtain⟨g,gc,rfl,hcell⟩:=o2.two Hs4.out (by omega) (by omega);refine⟨_,rfl,HS2.out,?_⟩;have Hcell:Hid _:=hcell;clear hN o2 c2 hcell;go_simp;refine zg 4 rfl rfl (by kernel_rfl) ?_
  refine jk (.tmp 7) (.tmp 10) 22 22 rfl 5 Tryz.underlying22 (by kernel_rfl) N 12 52 52 (zd g) 4 gc rfl rfl (ja (zm 4 c q)) 72 HB2.out.b2 ((zk s 4).map (Value.int .u8)) (by rw[List.length_map,Hs4.out];rfl) Hcell.out (by rw[List.length_map,Hs4.out,qQ (by rw[HY.out];omega)];decide) (ints_oneCell _ _) ?_;intro x3 hb3 hc3;have HB4:Hid (Enc w x3 N (jO 140 4 c q (za s)) (ja (zm 4 c q++zk s 4))):=by
   have h:=HB2.out.put hc3 hb3.out;have e:=XG (zm 4 c q) (zk s 4);rw[HY.out] at e;rw[e] at h;exact h
  have HS3:Hid _:=hc3.cell HS2.out (by omega);refine⟨HS3.out,?_⟩;clear hb3 hc3;go_simp;refine zt (by kernel_rfl) (NoPanic.normal ?_);go_wp2;go_meet;exact HB4.out
 case rest=>
  have hcl:=qQ (Y:=zm 4 c q++zk s 4) (by rw[List.length_append,HY.out,Hs4.out];omega);obtain⟨cs,hcs⟩: ∃cs,cs=ja (zm 4 c q++zk s 4):=⟨_,rfl⟩;rw[←hcs] at hcut hcl;have HBm:Hid _:=hcut;generalize wc=wf at*;clear hcut HE3;have HV2:Hid (∀v∈cs,v.oneCell'=true):=by show∀v∈cs,v.oneCell'=true;rw[hcs];exact Qm _
  have hics:(Tryz.prog.info? 72).map (·.size)=some cs.length:=by rw[hcl];kernel_rfl
  have Hcl:Hid _:=hcl;have Hcs:Hid _:=hcs;have u44:=Tryz.underlying72;have HR:Hid _:=zj HBm.out.b2;have HB1:Hid _:=HBm.out.b1;clear hcl hcs;go_wp2_with (first
   |(refine wpList_load_mid rfl 72 (.tmp 3) rfl N 0 rfl cs _ HR.out u44 rfl hics ?_)
   |(refine wpList_store_row rfl 72 (.tmp 2) (.tmp 12) rfl rfl (w.heap.size+1) rfl cs Z64 72 rfl HB1.out (by rw[zD];exact Hcl.out) hics HV2.out ?_;intro wg hbg hcg))
  have HCg:Hid _:=HBm.out.ch.step hcg (by omega);have hl1:(loadVar 72 (zd (w.heap.size+1))).run Tryz.prog wg= .ok (.agg cs.toArray) wg:=run_loadVar_mid _ _ _ _ cs _ (zj hbg) u44 rfl hics;go_wp2;exact bodyPost_ret (v:= .agg cs.toArray) (zu Tryz.results64 rfl hl1) rfl ⟨by rw[Hcs.out];rfl,HCg.out⟩
theorem Vq (cs:Array Value)(w:World):(Go.method 421 140 (.agg cs) "loop.example/s01525/impl.wrong").run Tryz.prog w= .ok (195,.agg cs) w:=by kernel_rfl
theorem YM (cs:Array Value)(w:World):(Go.method 421 140 (.agg cs) "loop.example/s01525/impl.encoded").run Tryz.prog w= .ok (64,.agg cs) w:=by kernel_rfl
theorem UZ (w:World)(c q s:Int)(h:1≤q∧q≤4294967295∧1≤c∧c≤511)(hs:0≤s∧s≤4294967295)(hi2:(zk c 2).length=2)(hq4:(zk q 4).length=4)(hs4:(zk s 4).length=4)(es:List Int)(he:es=qc (zm 4 c q++zk s 4))(hl:es.length=64)(hB:Byt es):
  Calls Tryz.prog 129 #[.iface 140 (.agg #[zb 106,zb 108,zb 111,zb 103,za 4,za c,za q,za s]),.agg (es.map (Value.int .u8)).toArray] w fun e w'=>e= .returned .nilIface∧Chg 0 0 w w':=by
 have hW:=fun W=>abo W 106 108 111 103 4 c q s h hs;have hX:=fun W=>QY W c q s (by omega) (by omega) (by omega) hi2 hq4 hs4;rw[←he] at hX;have m1:=Vq #[zb 106,zb 108,zb 111,zb 103,za 4,za c,za q,za s];have m2:=YM #[zb 106,zb 108,zb 111,zb 103,za 4,za c,za q,za s];have hA:Chg 0 0 w (w.alloc (.cells (es.map (Value.int .u8)).toArray 72)):=Chg.alloc (Chg.refl 0 0 w) _;have hb:=zh w (.cells (es.map (Value.int .u8)).toArray 72)
 have Hl:Hid (es.length=64):=hl;have HB:Hid (Byt es):=hB;clear he hl hB;obtain⟨cs,hcs⟩: ∃cs,cs=es.map (Value.int .u8):=⟨_,rfl⟩;rw[←hcs] at hX hA hb⊢;have Hcs:Hid (cs=es.map (Value.int .u8)):=hcs;clear hcs;go_enter Tryz.func129,Tryz.ntmps129;go_wp2_with fail;refine(hW _).mono ?_;rintro e w1 ⟨rfl,c1⟩;have hb1:=(c1.block _ (gLt hb) (by omega)).trans hb;have HC1:Hid (Chg 0 0 w w1):=hA.trans c1;clear hW c1 hb hA
 go_upto_region 4 with fail;have hb2:w1.drew.heap[w.heap.size]?=some (.cells cs.toArray 72 (0,0)):=hb1;have HC2:Hid (Chg 0 0 w w1.drew):=HC1.out.drew;refine zp (fun W'=>W'.heap[w.heap.size]?=some (.cells cs.toArray 72 (0,0))) (by kernel_rfl) ?_;clear hb1 HC1;generalize w1.drew=wd at*;refine hTk 0 (.iface 140 (.agg #[zb 106,zb 108,zb 111,zb 103,za 4,za c,za q,za s])) rfl (fun w' hw'=>by go_simp) hb2 ?_
 go_simp;have hi28:(Tryz.prog.info? 72).map (·.size)=some cs.length:=by rw[Hcs.out,List.length_map,Hl.out];kernel_rfl
 have u28:=Tryz.underlying72;refine zv 2 (.agg cs.toArray) rfl (by kernel_rfl) (by kernel_rfl) (by kernel_rfl) (fun _ _ _ h=>h) (yieldsIf_load_mid (by kernel_rfl) 72 (.tmp 3) rfl w.heap.size 0 rfl cs _ (fun w' hw'=>zj hw') u28 rfl hi28) hb2 ?_;go_simp;refine zg 1 rfl rfl (by kernel_rfl) ?_;refine zl 64 #[.agg #[zb 106,zb 108,zb 111,zb 103,za 4,za c,za q,za s]] (by first|kernel_rfl|go_simp) (hX wd) ?_
 rintro e w3 ⟨rfl,c3⟩;have hb3:=(c3.block _ (gLt hb2) (by omega)).trans hb2;have HC3:Hid (Chg 0 0 w w3):=HC2.out.trans c3;have hEq: ∀W,(Op.equalIn 10000 72 (.agg cs.toArray) (.agg cs.toArray)).run Tryz.prog W= .ok true W:=fun W=>by
  rw[Hcs.out,qW W _ 64 u28 HB.out HB.out Hl.out Hl.out,decide_eq_true rfl]
 clear c3 HC2;refine⟨_,rfl,hb3,?_⟩;go_simp;refine hTk 3 (.bool false) rfl (fun w' hw'=>by go_simp) hb3 ?_;go_simp;refine zt (by kernel_rfl) (NoPanic.normal ?_);go_wp2;go_ret;exact⟨rfl,HC3.out⟩
theorem jB {P:Program}{fn:Func}{p1 p2:Tmp}{t1:TypeId}{w:World}{tmps:Array Value}{a1:Addr}{v1 v2:Value}(h:fn.results= #[.cell p1 t1,.tmp p2])(h1:tmps.getD p1 undef= .pointer (some a1))(h2:tmps.getD p2 undef=v2)
  (hl1:(loadVar t1 a1).run P w= .ok v1 w):(results fn tmps).run P w= .ok (.tuple #[v1,v2]) w:=by
 have h1':tmps[p1]?.getD undef= .pointer (some a1):=by simpa using h1
 have h2':tmps[p2]?.getD undef=v2:=by simpa using h2
 simp only[results,h];simp[asAddr,h1',h2',hl1]
theorem Vw (w:World){lo hi:Nat}{a:Value}{xs:List Int}{tL tM tK:TypeId}{vL vM vK:Value}(c q s:Int)(h1:zr w lo hi .u8 a xs)(hB:Byt xs)(hG:jl w tL tM tK vL vM vK)(hx:xs.length=64)(hm:xs.take 4=mg)(hk:xs.getD 4 0=4)(hh:hd7 xs= #[zb 106,zb 108,zb 111,zb 103,za 4,za c,za q])(hsum:Zn ((xs.drop 12).take 4)=s)
  (he:xs=qc (zm 4 c q++zk s 4)) (hb:1≤q∧q≤4294967295∧1≤c∧c≤511) (hs:0≤s∧s≤4294967295) (hi2:(zk c 2).length=2) (hq4:(zk q 4).length=4) (hs4:(zk s 4).length=4):
  Calls Tryz.prog 154 #[a] w fun e w'=>e= .returned (.tuple #[.agg #[zb 106,zb 108,zb 111,zb 103,za 4,za c,za q,za s],.nilIface])∧Chg 0 0 w w':=by
 have CA:Chg 0 0 w (w.alloc (.cells #[zb 0,zb 0,zb 0,zb 0,za 0,za 0,za 0,za 0] 140)):=Chg.alloc (Chg.refl 0 0 w) _;have hn0:=zh w (.cells #[zb 0,zb 0,zb 0,zb 0,za 0,za 0,za 0,za 0] 140);have hN:=Z8 (w.alloc (.cells #[zb 0,zb 0,zb 0,zb 0,za 0,za 0,za 0,za 0] 140)) 4 (h1.chg CA (by omega)) hB (hG.chg CA (by omega)) hx hm hk (by omega);have hCf:=fun W=>UZ W c q s hb hs hi2 hq4 hs4 xs he hx hB;obtain⟨ao,cap,rfl,_⟩:=h1
 obtain⟨cs,hcs⟩: ∃cs,cs=xs.map (Value.int .u8):=⟨_,rfl⟩;have L1:cs.length=64:=by rw[hcs];simpa using hx
 have L2: ∀v∈cs,v.oneCell'=true:=by rw[hcs];exact ints_oneCell _ _
 have hi28:(Tryz.prog.info? 72).map (·.size)=some cs.length:=by rw[L1];kernel_rfl
 have HL1:Hid _:=L1;have HL2:Hid _:=L2;have hGet: ∀(W:World) (B:Nat),W.heap[B]?=some (.cells cs.toArray 72 (0,0))→Calls Tryz.prog 128 #[.slice (some ⟨B,12,none⟩) 4 52] W fun e w'=>e= .returned (za s)∧Chg 0 0 W w':=fun W B hW=>by
  have hl4:((xs.drop 12).take 4).length=4:=by rw[List.length_take,List.length_drop,hx];omega
  have hv:zr W B (B+1) .u8 (.slice (some ⟨B,12,none⟩) 4 52) ((xs.drop 12).take 4):=by
   refine⟨_,52,by rw[hl4],by omega,⟨by omega,by simp⟩,Or.inr ⟨B,12,rfl,Nat.le_refl _,Nat.lt_succ_self _,fun i hi=>?_⟩⟩;rw[hl4] at hi;simp only[World.cell?,hW];rw[hcs];simp[List.getD_eq_getElem?_getD,hi,hx,show 12+i<64 by omega]
  have:=jq W ((hB.drop 12).take 4) hv;rw[hsum] at this;exact this.mono fun e w' h=>⟨h.1,h.2.chg 0 0⟩
 rw[←hcs] at hN hCf;rw[hh] at hN;clear hcs L1 L2 hx hB hG hm hk hh he hsum;go_enter Tryz.func154,Tryz.ntmps154;go_wp2_with fail;generalize w.alloc (.cells #[zb 0,zb 0,zb 0,zb 0,za 0,za 0,za 0,za 0] 140)=wa at*;refine hN.mono ?_;rintro e w2 ⟨rfl,c2⟩;have s2:=c2.size;have hwa:=(gLt hn0);have HZ:Hid _:=(c2.block _ hwa (by omega)).trans hn0;have HA:Hid _:=CA.trans c2;clear hN c2 CA hn0;obtain⟨y1,y2,y3⟩:=zN w2 (.cells Z64.toArray 72) (.cells z7.toArray 138)
 have hA2:Chg 0 0 w2 ((w2.alloc (.cells Z64.toArray 72)).alloc (.cells z7.toArray 138)):=(Chg.alloc (Chg.refl 0 0 w2) _).alloc _;have HY2:Hid _:=y2;have HY3:Hid _:=y3;have HA2:Hid _:=hA2;clear y1 y2 y3 hA2;go_upto_region 2 with(first
  |(refine wpList_store_row rfl 72 (.tmp 4) (.tmp 11) rfl rfl w2.heap.size rfl cs Z64 72 rfl (by simp only[zM];exact HY2.out) (by rw[zD];exact HL1.out) hi28 HL2.out ?_;intro w3 hb3 hc3)
  |(refine wpList_store_row rfl 138 (.tmp 5) (.tmp 12) rfl rfl (w2.heap.size+1) rfl [zb 106,zb 108,zb 111,zb 103,za 4,za c,za q] z7 138 rfl (by simp only[zM] at hc3;exact(hc3.block (w2.heap.size+1) (gLt HY3.out) (by omega)).trans HY3.out) rfl (by kernel_rfl) (by simp[Value.oneCell']) ?_;intro w4 hb4 hc4))
 have s3:=hc3.size;have s4:=hc4.size;have hz4:=(gLt hb4);have C4:Chg 0 0 w2 w4:=by
  simp only[zM] at hc3;exact(HA2.out.step hc3 (by omega)).step hc4 (by omega)
 have HH:Hid (_∧_):=⟨hb4,(hc4.block _ (gLt hb3) (by omega)).trans hb3⟩;have HC4:Hid _:=HA.out.trans C4;have HZ4:Hid _:=(C4.block _ (by omega) (by omega)).trans HZ.out;clear hb3 hb4 hc3 hc4 C4 HA2 HY2 HY3;go_upto_region 4 with fail;go_cut [7] (fun s7 wx=> ∃B7,s7= .pointer (some (zd B7))∧w4.heap.size≤B7∧Chg 0 0 w4 wx∧wx.heap[B7]?=some (.cells (List.toArray [zb 106,zb 108,zb 111,zb 103,za 4,za c,za q,za s]) 140 (0,0)))
 case first=>
  have HS:Hid ((fun w':World=>w'.heap[w2.heap.size+1]?=some (.cells (List.toArray [zb 106,zb 108,zb 111,zb 103,za 4,za c,za q]) 138 (0,0))∧w'.heap[w2.heap.size]?=some (.cells cs.toArray 72 (0,0))) w4.drew):=HH.out;have HCd:Hid _:=Chg.drew (Chg.refl 0 0 w4);have hsd:=HCd.out.size;refine zp (fun w':World=>w'.heap[w2.heap.size+1]?=some (.cells (List.toArray [zb 106,zb 108,zb 111,zb 103,za 4,za c,za q]) 138 (0,0))∧w'.heap[w2.heap.size]?=some (.cells cs.toArray 72 (0,0))) (by kernel_rfl) ?_
  generalize w4.drew=w5 at*;refine zv 0 (.agg (List.toArray [zb 106,zb 108,zb 111,zb 103,za 4,za c,za q])) rfl (by kernel_rfl) (by kernel_rfl) (by kernel_rfl) (fun _ _ _ h=>h) (yieldsIf_load_mid (by kernel_rfl) 138 (.tmp 5) rfl (w2.heap.size+1) 0 rfl [zb 106,zb 108,zb 111,zb 103,za 4,za c,za q] _ (fun w' hw'=>zj hw'.1) Tryz.underlying138 rfl (by kernel_rfl)) HS.out ?_;go_simp;refine hTk 1 (.slice (some ⟨w2.heap.size,12,none⟩) 4 52) rfl (fun w' hw'=>by go_simp) HS.out ?_
  go_simp;refine Zy 2 4 rfl rfl rfl rfl (by kernel_rfl) ?_ ?_
  ·refine zl 128 #[.slice (some ⟨w2.heap.size,12,none⟩) 4 52] (by first|kernel_rfl|go_simp) (hGet w5 w2.heap.size HS.out.2) ?_;rintro e w6 ⟨rfl,c6⟩;have s6:=c6.size;have HS6:Hid (_∧_):=⟨(c6.block _ (gLt HS.out.1) (by omega)).trans HS.out.1,(c6.block _ (gLt HS.out.2) (by omega)).trans HS.out.2⟩;refine⟨_,rfl,HS6.out,?_⟩;go_simp;refine hTk 3 (.agg (List.toArray [zb 106,zb 108,zb 111,zb 103,za 4,za c,za q,za s])) rfl (fun w' hw'=>by go_simp) HS6.out ?_
   go_simp;refine zg 4 rfl rfl (by kernel_rfl) ?_;have cA:Chg 0 0 w6 (w6.alloc (.cells #[zb 0,zb 0,zb 0,zb 0,za 0,za 0,za 0,za 0] 140)):=Chg.alloc (Chg.refl 0 0 w6) _;have hnA:=zh w6 (.cells #[zb 0,zb 0,zb 0,zb 0,za 0,za 0,za 0,za 0] 140);have HS7:Hid (_∧_):=⟨(cA.block _ (gLt HS6.out.1) (by omega)).trans HS6.out.1,(cA.block _ (gLt HS6.out.2) (by omega)).trans HS6.out.2⟩;go_simp;refine⟨HS7.out,?_⟩;generalize w6.alloc (.cells #[zb 0,zb 0,zb 0,zb 0,za 0,za 0,za 0,za 0] 140)=w7 at*
   refine zg 5 rfl rfl (by kernel_rfl) ?_;refine wp_store_row 140 (.tmp 7) (.tmp 21) rfl rfl w6.heap.size rfl [zb 106,zb 108,zb 111,zb 103,za 4,za c,za q,za s] [zb 0,zb 0,zb 0,zb 0,za 0,za 0,za 0,za 0] 140 rfl hnA rfl (by kernel_rfl) (by simp[Value.oneCell']) ?_;intro w8 hb8 hc8;have HS8:Hid (_∧_):=⟨(hc8.block _ (gLt HS7.out.1) (by omega)).trans HS7.out.1,(hc8.block _ (gLt HS7.out.2) (by omega)).trans HS7.out.2⟩
   have HF:Hid _:=((HCd.out.trans c6).trans cA).step hc8 (by omega);have Hb8:Hid _:=hb8;refine⟨HS8.out,zt (by kernel_rfl) (NoPanic.normal ?_)⟩;clear hb8 hc8 cA hnA c6;go_wp2;go_meet;exact⟨_,rfl,by omega,HF.out,Hb8.out⟩
  ·have cA:Chg 0 0 w5 (w5.alloc (.cells #[zb 0,zb 0,zb 0,zb 0,za 0,za 0,za 0,za 0] 140)):=Chg.alloc (Chg.refl 0 0 w5) _;have hnA:=zh w5 (.cells #[zb 0,zb 0,zb 0,zb 0,za 0,za 0,za 0,za 0] 140);have HS7:Hid (_∧_):=⟨(cA.block _ (gLt HS.out.1) (by omega)).trans HS.out.1,(cA.block _ (gLt HS.out.2) (by omega)).trans HS.out.2⟩;go_simp;refine⟨HS7.out,?_⟩;generalize w5.alloc (.cells #[zb 0,zb 0,zb 0,zb 0,za 0,za 0,za 0,za 0] 140)=w7 at*
   refine zg 2 rfl rfl (by kernel_rfl) ?_;refine zl 128 #[.slice (some ⟨w2.heap.size,12,none⟩) 4 52] (by first|kernel_rfl|go_simp) (hGet w7 w2.heap.size HS7.out.2) ?_;rintro e w6 ⟨rfl,c6⟩;have s6:=c6.size;have s7:=cA.size;have HS6:Hid (_∧_):=⟨(c6.block _ (gLt HS7.out.1) (by omega)).trans HS7.out.1,(c6.block _ (gLt HS7.out.2) (by omega)).trans HS7.out.2⟩;have hnB:=(c6.block _ (gLt hnA) (by omega)).trans hnA
   refine⟨_,rfl,HS6.out,?_⟩;go_simp;refine hTk 3 (.agg (List.toArray [zb 106,zb 108,zb 111,zb 103,za 4,za c,za q,za s])) rfl (fun w' hw'=>by go_simp) HS6.out ?_;go_simp;refine zg 5 rfl rfl (by kernel_rfl) ?_;refine wp_store_row 140 (.tmp 7) (.tmp 21) rfl rfl w5.heap.size rfl [zb 106,zb 108,zb 111,zb 103,za 4,za c,za q,za s] [zb 0,zb 0,zb 0,zb 0,za 0,za 0,za 0,za 0] 140 rfl hnB rfl (by kernel_rfl) (by simp[Value.oneCell']) ?_
   intro w8 hb8 hc8;have HS8:Hid (_∧_):=⟨(hc8.block _ (gLt HS6.out.1) (by omega)).trans HS6.out.1,(hc8.block _ (gLt HS6.out.2) (by omega)).trans HS6.out.2⟩;have HF:Hid _:=((HCd.out.trans cA).trans c6).step hc8 (by omega);have Hb8:Hid _:=hb8;refine⟨HS8.out,zt (by kernel_rfl) (NoPanic.normal ?_)⟩;clear hb8 hc8 cA hnA hnB c6;go_wp2;go_meet;exact⟨_,rfl,by omega,HF.out,Hb8.out⟩
 case rest=>
  obtain⟨B7,rfl,hB7,hc9,hb9⟩:=hcut;generalize wc=w9 at*;have s9:=hc9.size;have HS:Hid ((fun w':World=>w'.heap[B7]?=some (.cells (List.toArray [zb 106,zb 108,zb 111,zb 103,za 4,za c,za q,za s]) 140 (0,0))∧w'.heap[w2.heap.size]?=some (.cells cs.toArray 72 (0,0))) w9.drew):=⟨hb9,(hc9.block _ (gLt HH.out.2) (by omega)).trans HH.out.2⟩;have HC9:Hid _:=(HC4.out.trans hc9).drew;have HZ9:w9.drew.heap[w.heap.size]?=some (.cells (List.toArray [zb 0,zb 0,zb 0,zb 0,za 0,za 0,za 0,za 0]) 140 (0,0)):=(hc9.block _ (by omega) (by omega)).trans HZ4.out
  clear hc9 hb9 HH HC4 HZ4 hGet;go_upto_region 5 with fail;refine zp (fun w':World=>w'.heap[B7]?=some (.cells (List.toArray [zb 106,zb 108,zb 111,zb 103,za 4,za c,za q,za s]) 140 (0,0))∧w'.heap[w2.heap.size]?=some (.cells cs.toArray 72 (0,0))) (by kernel_rfl) ?_;generalize w9.drew=wd at*;refine zv 0 (.agg (List.toArray [zb 106,zb 108,zb 111,zb 103,za 4,za c,za q,za s])) rfl (by kernel_rfl) (by kernel_rfl) (by kernel_rfl) (fun _ _ _ h=>h) (yieldsIf_load_mid (by kernel_rfl) 140 (.tmp 7) rfl B7 0 rfl [zb 106,zb 108,zb 111,zb 103,za 4,za c,za q,za s] _ (fun w' hw'=>zj hw'.1) Tryz.underlying140 rfl (by kernel_rfl)) HS.out ?_
  go_simp;refine zv 1 (.agg (List.toArray [zb 106,zb 108,zb 111,zb 103,za 4,za c,za q,za s])) rfl (by kernel_rfl) (by kernel_rfl) (by kernel_rfl) (fun _ _ _ h=>h) (yieldsIf_load_mid (by kernel_rfl) 140 (.tmp 7) rfl B7 0 rfl [zb 106,zb 108,zb 111,zb 103,za 4,za c,za q,za s] _ (fun w' hw'=>zj hw'.1) Tryz.underlying140 rfl (by kernel_rfl)) HS.out ?_;go_simp;refine hTk 2 (.iface 140 (.agg (List.toArray [zb 106,zb 108,zb 111,zb 103,za 4,za c,za q,za s]))) rfl (fun w' hw'=>by go_simp) HS.out ?_
  go_simp;refine zv 3 (.agg cs.toArray) rfl (by kernel_rfl) (by kernel_rfl) (by kernel_rfl) (fun _ _ _ h=>h) (yieldsIf_load_mid (by kernel_rfl) 72 (.tmp 4) rfl w2.heap.size 0 rfl cs _ (fun w' hw'=>zj hw'.2) Tryz.underlying72 rfl hi28) HS.out ?_;go_simp;refine zg 4 rfl rfl (by kernel_rfl) ?_;refine zl 129 #[.iface 140 (.agg (List.toArray [zb 106,zb 108,zb 111,zb 103,za 4,za c,za q,za s])),.agg cs.toArray] (by first|kernel_rfl|go_simp) (hCf wd) ?_
  rintro e we ⟨rfl,ce⟩;have se:=ce.size;have HSe:Hid (_∧_):=⟨(ce.block _ (gLt HS.out.1) (by omega)).trans HS.out.1,(ce.block _ (gLt HS.out.2) (by omega)).trans HS.out.2⟩;have hze:=(ce.block _ (gLt HZ9) (by omega)).trans HZ9;refine⟨_,rfl,HSe.out,?_⟩;go_simp;refine zg 5 rfl rfl (by kernel_rfl) ?_;refine wp_store_row 140 (.tmp 2) (.tmp 22) rfl rfl w.heap.size rfl [zb 106,zb 108,zb 111,zb 103,za 4,za c,za q,za s] [zb 0,zb 0,zb 0,zb 0,za 0,za 0,za 0,za 0] 140 rfl hze rfl (by kernel_rfl) (by simp[Value.oneCell']) ?_
  intro wf hbf hcf;have HSf:Hid (_∧_):=⟨(hcf.block _ (gLt HSe.out.1) (by omega)).trans HSe.out.1,(hcf.block _ (gLt HSe.out.2) (by omega)).trans HSe.out.2⟩;have Hbf:Hid _:=hbf;have HCf:Hid _:=(HC9.out.trans ce).step hcf (by omega);refine⟨HSf.out,?_⟩;clear hbf hcf ce hze;go_simp;refine zg 6 rfl rfl (by kernel_rfl) ?_;refine qA (v:= .nilIface) (w':=wf) (by first|kernel_rfl|go_simp) ⟨HSf.out,?_⟩;go_simp
  refine zt (by kernel_rfl) (NoPanic.normal ?_);go_wp2;have hl1:(loadVar 140 (zd w.heap.size)).run Tryz.prog wf= .ok (.agg (List.toArray [zb 106,zb 108,zb 111,zb 103,za 4,za c,za q,za s])) wf:=run_loadVar_mid _ _ _ _ [zb 106,zb 108,zb 111,zb 103,za 4,za c,za q,za s] _ (zj Hbf.out) Tryz.underlying140 rfl (by kernel_rfl);exact bodyPost_ret (v:= .tuple #[.agg (List.toArray [zb 106,zb 108,zb 111,zb 103,za 4,za c,za q,za s]),.nilIface]) (jB Tryz.results154 rfl rfl hl1) rfl ⟨rfl,HCf.out⟩
end Go.Proofs.YtacjklochmelfaaGreatDoor
