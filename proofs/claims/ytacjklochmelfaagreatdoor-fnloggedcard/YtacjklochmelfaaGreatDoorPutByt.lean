import Derived.Test.YtacjklochmelfaaGreatDoorCells2
import Derived.Laws.AppendOwnNone
import Derived.Deep.MidRow
import Derived.Test.YtacjklochmelfaaGreatDoorRowZ
import Derived.Test.YtacjklochmelfaaGreatDoorCopyRow
import Derived.Test.YtacjklochmelfaaGreatDoorHeld
import Derived.Deep.RegionWith
import Derived.Deep.DeepCutAuto
import Derived.Test.YtacjklochmelfaaGreatDoorRows
import Derived.Laws.BytesArg
import Derived.Test.YtacjklochmelfaaGreatDoorWeak
namespace Go.Proofs.YtacjklochmelfaaGreatDoor
open Go.RowKit
set_option maxRecDepth 100000
set_option maxHeartbeats 16000000
theorem Tryz.infoU1:(Tryz.prog.info? 5).map (fun i=>(i.zero,i.size,i.bytes))=some (some (zb 0),1,1):=by kernel_rfl
def Zh (v:Int):Nat→List Int
 |0=> []
 |n+1=>(v/256^n % 256)::Zh v n
theorem qw (v:Int)(n:Nat):(Zh v n).length=n:=by
 induction n with
 |zero=>rfl
 |succ n ih=>simp[Zh,ih]
theorem Kh (v:Int)(k:Nat):v/256^ (k+1)=v/256^k/256:=by
 rw[Int.pow_succ,Int.ediv_ediv_of_nonneg (Int.le_of_lt (Int.pow_pos (by decide)))]
theorem Zv {v:Int}(h:0≤v)(k:Nat):0≤v/256^k:=Int.ediv_nonneg h (Int.le_of_lt (Int.pow_pos (by decide)))
theorem Ur {v:Int}(h:0≤v)(k:Nat):v/256^k≤v:=Int.ediv_le_self _ h
def zk (v n:Int):List Int:=if n<1∨n>8∨v<0 then [] else if v/256^n.toNat>0 then [] else Zh v n.toNat
theorem zI (w:World)(v n:Int)(hv:v≤9223372036854775807):Calls Tryz.prog 71 #[za v,za n] w fun e w'=> ∃r,e= .returned r∧zi w' w.heap.size 5 r (zk v n)∧Chg 0 0 w w':=by
 obtain⟨i,hi,hz0,hz1,hz2⟩:=info_parts Tryz.infoU1;have C0:Chg 0 0 w (w.alloc (.cells #[] 5)):=Chg.alloc (Chg.refl 0 0 w) _;have O0:(w.alloc (.cells #[] 5)).ownsRow w.heap.size 5 1 (.slice (some (zd w.heap.size)) 0 0) 0 []:=by
  have:=World.ownsRow_lit (base:=w.heap.size) (e:=5) (size:=1) w #[] 0 (Nat.le_refl _) (by unfold maxLen;omega) rfl;simpa using this
 by_cases hbad:n<1∨n>8∨v<0
 ·have HO:Hid (zi (w.alloc (.cells #[] 5)) w.heap.size 5 (.slice (some (zd w.heap.size)) 0 0) (zk v n)):=by
   show zi _ _ _ _ _;unfold zk;rw[if_pos hbad];exact O0
  clear O0;by_cases h1:n<1
  ·go_enter Tryz.func71,Tryz.ntmps71;go_wp2;go_ret;exact⟨_,rfl,HO.out,C0⟩
  ·by_cases h2:n>8
   ·go_enter Tryz.func71,Tryz.ntmps71;go_wp2;go_ret;exact⟨_,rfl,HO.out,C0⟩
   ·have h3:v<0:=by omega
    go_enter Tryz.func71,Tryz.ntmps71;go_wp2;go_ret;exact⟨_,rfl,HO.out,C0⟩
 ·obtain⟨m,rfl⟩: ∃m:Nat,n=(m:Int):=⟨n.toNat,by omega⟩;have h1: ¬(m:Int)<1:=by omega
  have h2: ¬(m:Int)>8:=by omega
  have h3: ¬v<0:=by omega
  have HO:Hid (zi (w.alloc (.cells #[] 5)) w.heap.size 5 (.slice (some (zd w.heap.size)) 0 0) (Zh v 0)):=O0;have HB:Hid (¬((m:Int)<1∨(m:Int)>8∨v<0)):=hbad;have HC:Hid (Chg 0 0 w (w.alloc (.cells #[] 5))):=C0;clear O0 hbad C0;go_enter Tryz.func71,Tryz.ntmps71;go_wp2;go_loopw [0,5,6] (fun u out i wr=> ∃k:Nat,k≤m∧i=za k∧u=za (v/256^k)∧(∃g cap,out= .slice (some (zd g)) k cap)∧zi wr w.heap.size 5 out (Zh v k)∧Chg 0 0 w wr) (fun _ _ i _=>m-(intOf i).toNat)
  case atStart=>exact⟨0,Nat.zero_le _,rfl,by simp,⟨_,_,rfl⟩,HO.out,HC.out⟩
  case round=>
   obtain⟨k,hk,rfl,rfl,⟨g,cap,rfl⟩,ho,hc⟩:=hrel;clear HO HC;by_cases hlt:k<m
   ·have hi':(k:Int)<(m:Int):=by omega
    have b1:=Zv (v:=v) (by omega) k;have b2:=Ur (v:=v) (by omega) k;generalize hu:v/256^k=u at*;have hlen:=qw v k;have O1:(wr.alloc (.cells #[zb (u % 256)] 5)).ownsRow w.heap.size 5 1 (.slice (some (zd wr.heap.size)) 1 1) 1 [zb (u % 256)]:=
     World.ownsRow_lit (base:=w.heap.size) (e:=5) (size:=1) wr #[zb (u % 256)] 1 hc.size (by unfold maxLen;omega) rfl
    have hsrc: ∀j y,((Zh v k).map (Value.int .u8))[j]?=some y→(wr.alloc (.cells #[zb (u % 256)] 5)).cell? (((zd g):Addr).add j)=some y:=by
     intro j y hj;have hjl:j<k:=by have:=(List.getElem?_eq_some_iff.1 hj).1;simpa [hlen] using this
     have ho':wr.ownsRow w.heap.size 5 1 (.slice (some (zd g)) k cap) k ((Zh v k).map (Value.int .u8)):=by
      have:=ho;unfold zi at this;rw[hlen] at this;exact this
     have h4:=World.ownsRow.cellAt ho' j (by omega);rw[hj] at h4;rw[Addr.add_mid,Nat.zero_add];exact(Chg.alloc (Chg.refl 0 0 wr) _).cell h4 (by omega)
    have Hsrc:Hid (∀j y,((Zh v k).map (Value.int .u8))[j]?=some y→(wr.alloc (.cells #[zb (u % 256)] 5)).cell? (((zd g):Addr).add j)=some y):=hsrc;have bs:Hid (w.heap.size≤(wr.alloc (.cells #[zb (u % 256)] 5)).heap.size):=by show _≤_;have:=hc.size;simp;omega
    have HO1:Hid _:=O1;have HL:Hid ((Zh v k).length=k):=hlen;have HU:Hid (v/256^k=u):=hu;have Hc:Hid (Chg 0 0 w wr):=hc;clear hsrc ho O1 hlen hu hc;go_wp2_with (at_builtin;refine wpList_append_own _ rfl (.tmp 27) (.tmp 28) 22 rfl w.heap.size 5 i (zb 0) 1 1 Tryz.underlying22 hi hz0 hz1 hz2 rfl (by decide) _ 1 [zb (u % 256)] rfl HO1.out (zd g) k cap ((Zh v k).map (Value.int .u8)) rfl (by rw[List.length_map,HL.out];omega) Hsrc.out (ints_oneCell _ _) (by unfold maxLen;omega) (by omega) bs.out ?_)
    intro v' w1 hown hgrow hnn;have HO:Hid (zi w1 w.heap.size 5 v' (Zh v (k+1))):=by
     show zi _ _ _ _ _;unfold zi;rw[qw,Zh,HU.out,List.map_cons,Nat.add_comm k 1];exact hown
    have HV:Hid (∃g cap,v'= .slice (some (zd g)) (k+1) cap):=by
     show∃g cap,_;rcases hown.2 with⟨e,_⟩|⟨g',cap',cur,e,_⟩
     ·exact absurd e (by simpa using hnn)
     ·exact⟨g',cap',by rw[e,Nat.add_comm]⟩
    have HC:Hid (Chg 0 0 w w1):=(Hc.out.alloc _).step (Chg.ofGrown (lo:=wr.heap.size) (hi:=wr.heap.size+1) hgrow (fun k hk _=>by simp only[Value.ownBlock,Option.some.injEq] at hk;omega)) (Or.inr (Or.inl Hc.out.size));clear hown hgrow hnn HO1 Hsrc bs;go_wp2;go_roundw
    case rel=>exact⟨k+1,by omega,by go_num,by rw[Kh,HU.out],HV.out,HO.out,HC.out⟩
    case measure=>simp[intOf];omega
   ·obtain rfl:k=m:=by omega
    have e0:(k:Int).toNat=k:=by omega
    have b1:=Zv (v:=v) (by omega) k;have b2:=Ur (v:=v) (by omega) k;by_cases hp:v/256^k>0
    ·have HO:Hid (zi (wr.alloc (.cells #[] 5)) w.heap.size 5 (.slice (some (zd wr.heap.size)) 0 0) (zk v k)):=by
      show zi _ _ _ _ _;unfold zk;rw[if_neg HB.out,e0,if_pos hp];have:=World.ownsRow_lit (base:=w.heap.size) (e:=5) (size:=1) wr #[] 0 hc.size (by unfold maxLen;omega) rfl;exact this
     have HC:=hc.alloc (.cells #[] 5);generalize v/256^k=u at*;clear ho;go_wp2;go_ret;exact⟨_,rfl,HO.out,HC⟩
    ·have HO:Hid (zi wr w.heap.size 5 (.slice (some (zd g)) k cap) (zk v k)):=by
      show zi _ _ _ _ _;unfold zk;rw[if_neg HB.out,e0,if_neg hp];exact ho
     generalize v/256^k=u at*;clear ho;go_wp2;go_ret;exact⟨_,rfl,HO.out,hc⟩
theorem abQ (v:Int)(m k:Nat)(h:k<m):
  ((List.replicate (m-k) 0++Zh v k).map (Value.int .u8)).set (m-k-1) (zb (v/256^k % 256))=(List.replicate (m-(k+1)) 0++Zh v (k+1)).map (Value.int .u8):=by
 have e:m-k=(m-(k+1))+1:=by omega
 have e2:m-k-1=m-(k+1):=by omega
 rw[e2,e,List.replicate_succ',List.append_assoc,List.map_append,List.map_append,List.set_append];simp[Zh]
theorem jc (w:World)(v n:Int)(hv:v≤9223372036854775807):Calls Tryz.prog 104 #[za v,za n] w fun e w'=> ∃r,e= .returned r∧zi w' w.heap.size 5 r (zk v n)∧Chg 0 0 w w':=by
 obtain⟨i,hi,hz0,hz1,hz2⟩:=info_parts Tryz.infoU1;by_cases hbad:n<1∨n>8∨v<0
 ·have HO:Hid (zi w w.heap.size 5 (zc) (zk v n)):=by
   show zi _ _ _ _ _;unfold zk;rw[if_pos hbad];exact zi.nil _ _ _
  by_cases h1:n<1
  ·go_enter Tryz.func104,Tryz.ntmps104;go_wp2;go_ret;exact⟨_,rfl,HO.out,Chg.refl _ _ _⟩
  ·by_cases h2:n>8
   ·go_enter Tryz.func104,Tryz.ntmps104;go_wp2;go_ret;exact⟨_,rfl,HO.out,Chg.refl _ _ _⟩
   ·have h3:v<0:=by omega
    go_enter Tryz.func104,Tryz.ntmps104;go_wp2;go_ret;exact⟨_,rfl,HO.out,Chg.refl _ _ _⟩
 ·obtain⟨m,rfl⟩: ∃m:Nat,n=(m:Int):=⟨n.toNat,by omega⟩;have h1: ¬(m:Int)<1:=by omega
  have h2: ¬(m:Int)>8:=by omega
  have h3: ¬v<0:=by omega
  have HB:Hid (¬((m:Int)<1∨(m:Int)>8∨v<0)):=hbad;clear hbad;go_enter Tryz.func104,Tryz.ntmps104;go_wp2_with (at_make;refine wpList_make_full _ rfl _ _ 22 rfl w.heap.size 5 i (zb 0) 1 Tryz.underlying22 hi hz0 hz1 _ _ _ _ m rfl rfl rfl rfl (by rw[hz2];omega) (by unfold maxLen;omega) (by simp) ?_);intro w1 hown hgrow;have hch:Chg 0 0 w w1:=Chg.ofGrown hgrow (by simp);have hO:zi w1 w.heap.size 5 (.slice (some (zd w.heap.size)) m m) (List.replicate (m-0) 0++Zh v 0):=by
   unfold zi;simpa [toList_madeCells_one,Zh] using hown
  have hlt0:w.heap.size<w1.heap.size:=by
   have:=World.ownsRow.lt hown w.heap.size rfl;omega
  clear hown hgrow;go_wp2;go_loopw [5,7] (fun u i wr=> ∃k:Nat,k≤m∧i=za ((m:Int)-k-1)∧u= .int .u64 (v/256^k)∧zi wr w.heap.size 5 (.slice (some (zd w.heap.size)) m m) (List.replicate (m-k) 0++Zh v k)∧Chg 0 0 w wr) (fun _ i _=>(intOf i+1).toNat)
  case atStart=>exact⟨0,Nat.zero_le _,by go_num,by simp,hO,hch⟩
  case round=>
   obtain⟨k,hk,rfl,rfl,hown,hc⟩:=hrel;clear hO hch;have hlen:(List.replicate (m-k) 0++Zh v k).length=m:=by simp[qw];omega
   have b1:=Zv (v:=v) (by omega) k;have b2:=Ur (v:=v) (by omega) k;by_cases hlt:k<m
   ·obtain⟨j,hj⟩: ∃j:Nat,j=m-k-1:=⟨_,rfl⟩;have ej:(m:Int)-k-1=(j:Int):=by omega
    have hown':wr.ownsRow w.heap.size 5 1 (.slice (some (zd w.heap.size)) m m) m ((List.replicate (m-k) 0++Zh v k).map (Value.int .u8)):=by
     have:=hown;unfold zi at this;rw[hlen] at this;exact this
    have c1: ∃y,wr.cell? ⟨w.heap.size,j,none⟩=some y:=by
     have:=World.ownsRow.cellAt hown' j (by omega);rw[this];exact⟨_,List.getElem?_eq_getElem (by rw[List.length_map,hlen];omega)⟩
    obtain⟨y,c1⟩:=c1;have f1:wr.frozen? ⟨w.heap.size,j,none⟩=false:=World.ownsRow.frozenAt hown' j;have hst:=(World.ownsRow.stored hown' j (zb (v/256^k % 256))).1;rw[hj,abQ _ _ _ hlt,←hj] at hst;have hlen2:(List.replicate (m-(k+1)) 0++Zh v (k+1)).length=m:=by simp[qw];omega
    have HR:Hid (zi (wr.setCell ⟨w.heap.size,j,none⟩ (zb (v/256^k % 256))) w.heap.size 5 (.slice (some (zd w.heap.size)) m m) (List.replicate (m-(k+1)) 0++Zh v (k+1))):=by
     show zi _ _ _ _ _;unfold zi;rw[hlen2];exact hst
    have HR2:Hid (Chg 0 0 w (wr.setCell ⟨w.heap.size,j,none⟩ (zb (v/256^k % 256)))):=hc.setCell (Or.inr (Nat.le_refl _)) _;have HU:Hid (v/256^ (k+1)=v/256^k/256):=Kh v k;generalize v/256^k=u at*;clear hst hown hown' hlen hlen2 hc;rw[ej];have hj1:(j:Int)<(m:Int):=by omega
    have HJ:Hid (j=m-k-1):=hj;clear hj ej;go_wp2;go_roundw
    case rel=>exact⟨k+1,by omega,by have:=HJ.out;congr 1;omega,by rw[HU.out],HR.out,HR2.out⟩
    case measure=>simp[intOf]
   ·obtain rfl:k=m:=by omega
    have e0:(k:Int).toNat=k:=by omega
    have e1:(k:Int)-k-1= -1:=by omega
    rw[e1];clear hlen;by_cases hp:v/256^k>0
    ·have HO:Hid (zi wr w.heap.size 5 (zc) (zk v k)):=by
      show zi _ _ _ _ _;unfold zk;rw[if_neg HB.out,e0,if_pos hp];exact zi.nil _ _ _
     have hne:(v/256^k !=0)=true:=by simp;omega
     generalize v/256^k=u at*;clear hown;go_wp2;go_ret;exact⟨_,rfl,HO.out,hc⟩
    ·have HO:Hid (zi wr w.heap.size 5 (.slice (some (zd w.heap.size)) k k) (zk v k)):=by
      show zi _ _ _ _ _;unfold zk;rw[if_neg HB.out,e0,if_neg hp];have:=hown;rw[Nat.sub_self,List.replicate_zero,List.nil_append] at this;exact this
     have hz:v/256^k=0:=by omega
     rw[hz];clear hown;go_wp2;go_ret;exact⟨_,rfl,HO.out,hc⟩
theorem zi.nothing (w:World)(N:Nat)(e:TypeId):zi w N e (zc) []:=⟨rfl,Or.inl ⟨rfl,rfl⟩⟩
theorem VH (w:World)(o1 o2:Obj):((w.alloc o1).alloc o2).heap[w.heap.size]?=some o1:=(zN w o1 o2).2.1
theorem Ka (w:World)(o1 o2:Obj):((w.alloc o1).alloc o2).heap[w.heap.size+1]?=some o2:=(zN w o1 o2).2.2
theorem EG {w:World}{s:Nat}{a b c:Value}{t:TypeId}(h:w.heap[s]?=some (.cells #[a,b,c] t (0,0))):
  w.cell? (zd s)=some a∧w.cell? ⟨s,1,none⟩=some b∧w.cell? ⟨s,2,none⟩=some c:=by
 simp[World.cell?,h]
def XD (h0 h1 h2 h3 kd it sq:Int):List Int:= [h0,h1,h2,h3,kd,0]++zk it 2++zk sq 4++List.replicate 52 0
theorem Z6 (w:World)(h0 h1 h2 h3 kd it sq:Int)(hk0:0≤kd)(hk1:kd<256)(hi:it≤9223372036854775807)(hq:sq≤9223372036854775807)(hi2:(zk it 2).length=2)(hq4:(zk sq 4).length=4):
  Calls Tryz.prog 103 #[.agg #[zb h0,zb h1,zb h2,zb h3,za kd,za it,za sq]] w fun e w'=>e= .returned (.agg ((XD h0 h1 h2 h3 kd it sq).map (Value.int .u8)).toArray)∧Chg 0 0 w w':=by
 have Hi2:Hid _:=hi2;have Hq4:Hid _:=hq4;clear hi2 hq4;have HB0:Hid (Beg w (((w.alloc (.cells #[zb h0,zb h1,zb h2,zb h3,za kd,za it,za sq] 138)).alloc (.cells Z64.toArray 72)).alloc (.cells Z64.toArray 72)) (.cells #[zb h0,zb h1,zb h2,zb h3,za kd,za it,za sq] 138 (0,0)) (Z64)):=by
  show Beg _ _ _ _;have e1:(w.alloc (.cells #[zb h0,zb h1,zb h2,zb h3,za kd,za it,za sq] 138)).heap.size=w.heap.size+1:=by simp
  obtain⟨z1,z2,z3⟩:=zN (w.alloc (.cells #[zb h0,zb h1,zb h2,zb h3,za kd,za it,za sq] 138)) (.cells Z64.toArray 72) (.cells Z64.toArray 72);rw[e1] at z1 z2 z3;refine⟨?_,z2,z3,((Chg.alloc (Chg.refl 0 0 w) _).alloc _).alloc _⟩;have c2:Chg 0 0 (w.alloc (.cells #[zb h0,zb h1,zb h2,zb h3,za kd,za it,za sq] 138)) (((w.alloc (.cells #[zb h0,zb h1,zb h2,zb h3,za kd,za it,za sq] 138)).alloc (.cells Z64.toArray 72)).alloc (.cells Z64.toArray 72)):=(Chg.alloc (Chg.refl 0 0 _) _).alloc _
  exact(c2.block w.heap.size (by omega) (by omega)).trans (zh w _)
 go_enter Tryz.func103,Tryz.ntmps103;go_upto_region 2 with fail;simp only[zM];generalize (((w.alloc (.cells #[zb h0,zb h1,zb h2,zb h3,za kd,za it,za sq] 138)).alloc (.cells Z64.toArray 72)).alloc (.cells Z64.toArray 72))=wa at*;go_cut [7] (fun _ wx=>Beg w wx (.cells #[zb h0,zb h1,zb h2,zb h3,za kd,za it,za sq] 138 (0,0)) (splice Z64 0 [zb h0,zb h1,zb h2,zb h3]))
 case first=>
  have HS0:Hid _:=trivial;refine zp (fun _:World=>True) (by kernel_rfl) ?_;refine hTk 0 (.slice (some ⟨w.heap.size+1+1,0,none⟩) 4 64) rfl (fun w' hw'=>by go_simp) HS0.out ?_;go_simp;refine hTk 1 (.pointer (some (zd w.heap.size))) rfl (fun w' hw'=>by go_simp) HS0.out ?_;go_simp;refine hTk 2 (.slice (some (zd w.heap.size)) 4 4) rfl (fun w' hw'=>by go_simp) HS0.out ?_;go_simp;have HB1:Hid _:=HB0.out.chg (Chg.drew (Chg.refl 0 0 wa))
  refine zg 3 rfl rfl (by kernel_rfl) ?_;refine jk (.tmp 4) (.tmp 6) 22 22 rfl 5 Tryz.underlying22 (by kernel_rfl) (w.heap.size+1+1) 0 4 64 (zd w.heap.size) 4 4 rfl rfl Z64 72 HB1.out.b2 [zb h0,zb h1,zb h2,zb h3] rfl ?_ (by rw[zD];simp) (by simp[Value.oneCell']) ?_
  ·intro j v hj;have hb:=HB1.out.b0;have hj4:j<4:=by have:=(List.getElem?_eq_some_iff.1 hj).1;simpa using this
   rcases j with _|_|_|_|j
   all_goals first|omega|(simp at hj;subst hj;simp[World.cell?,Addr.add,hb])
  intro w1 hb1 hc1;have HB2:Hid _:=HB1.out.put hc1 hb1.out;refine⟨trivial,?_⟩;clear hb1 hc1;go_simp;refine zt (by kernel_rfl) (NoPanic.normal ?_);go_wp2;go_meet;exact HB2.out
 case rest=>
  have HB3:Hid _:=hcut;have hb0:=HB3.out.b0;have k4:wc.cell? ⟨w.heap.size,4,none⟩=some (za kd):=by simp[World.cell?,hb0]
  have hb2:=HB3.out.b2;have e4:(splice Z64 0 [zb h0,zb h1,zb h2,zb h3])[4]?=some (zb 0):=by unfold Z64 splice;rfl
  have k5:wc.cell? ⟨w.heap.size+1+1,4,none⟩=some (zb 0):=by simp only[World.cell?,hb2,List.getElem?_toArray,e4];rfl
  have f5:wc.frozen? ⟨w.heap.size+1+1,4,none⟩=false:=by simp[World.frozen?,hb2]
  have HBn:Hid (Beg w (wc.setCell ⟨w.heap.size+1+1,4,none⟩ (zb kd)) (.cells #[zb h0,zb h1,zb h2,zb h3,za kd,za it,za sq] 138 (0,0)) ((splice Z64 0 [zb h0,zb h1,zb h2,zb h3]).set 4 (zb kd))):=by
   show Beg _ _ _ _;refine HB3.out.put (Chg.setCell (p:=⟨w.heap.size+1+1,4,none⟩) (Chg.refl _ _ wc) (Or.inl ⟨Nat.le_refl _,Nat.lt_succ_self _⟩) _) ?_;have hlt:=HB3.out.lt;simp[World.setCell,hb2,Array.getElem?_modify]
  clear hb0 hb2 e4 HB3 HB0 hcut;go_upto_region 4 with fail;generalize wc.setCell ⟨w.heap.size+1+1,4,none⟩ (zb kd)=wd at*;clear k4 k5 f5;go_cut [16] (fun _ wx=>Beg w wx (.cells #[zb h0,zb h1,zb h2,zb h3,za kd,za it,za sq] 138 (0,0)) (splice ((splice Z64 0 [zb h0,zb h1,zb h2,zb h3]).set 4 (zb kd)) 6 ((zk it 2).map (Value.int .u8))))
  case first=>
   have HB1:Hid _:=HBn.out.chg (Chg.drew (Chg.refl 0 0 wd));have HS0:Hid ((fun w':World=>w'.cell? ⟨w.heap.size,5,none⟩=some (za it)) wd.drew):=by
    have hb:=HB1.out.b0;show _=_;simp[World.cell?,hb]
   refine zp (fun w':World=>w'.cell? ⟨w.heap.size,5,none⟩=some (za it)) (by kernel_rfl) ?_;refine hTk 0 (.slice (some ⟨w.heap.size+1+1,6,none⟩) 2 58) rfl (fun w' hw'=>by go_simp) HS0.out ?_;go_simp;refine hTk 1 (.pointer (some ⟨w.heap.size,5,none⟩)) rfl (fun w' hw'=>by go_simp) HS0.out ?_;go_simp;refine hTk 2 (za it) rfl (fun w' hw'=>by have h4:w'.cell? _=_:=hw';go_simp) HS0.out ?_;go_simp;generalize wd.drew=x1 at*
   have hlt:=HB1.out.lt;have hN:=jc x1 it 2 (by omega);refine zg 3 rfl rfl (by kernel_rfl) ?_;refine zl 104 #[za it,za 2] (by first|kernel_rfl|go_simp) hN ?_;rintro e x2 ⟨r,rfl,o2,c2⟩;have HB2:Hid _:=HB1.out.chg c2;have HS2:Hid _:=c2.cell HS0.out (by omega);obtain⟨g,gc,rfl,hcell⟩: ∃g gc,r= .slice (some (zd g)) 2 gc∧ ∀i,i<2→x2.cell? ⟨g,i,none⟩=some (zb ((zk it 2).getD i 0)):=by
    have hv:=o2.view (hi:=x2.heap.size) (by rw[Hi2.out];omega) (fun g hg=>(o2.lt g hg).2);rcases o2.2 with⟨_,h0⟩|⟨g,gc,cur,rfl,_⟩
    ·rw[Hi2.out] at h0;omega
    ·refine⟨g,gc,by rw[Hi2.out],fun i hi=>hv.cellAt' i (by rw[Hi2.out];exact hi)⟩
   refine⟨_,rfl,HS2.out,?_⟩;have Hcell:Hid _:=hcell;clear hN o2 c2 hcell;go_simp;refine zg 4 rfl rfl (by kernel_rfl) ?_;refine jk (.tmp 12) (.tmp 15) 22 22 rfl 5 Tryz.underlying22 (by kernel_rfl) (w.heap.size+1+1) 6 2 58 (zd g) 2 gc rfl rfl ((splice Z64 0 [zb h0,zb h1,zb h2,zb h3]).set 4 (zb kd)) 72 HB2.out.b2 ((zk it 2).map (Value.int .u8)) (by rw[List.length_map,Hi2.out];rfl) ?_ (by rw[List.length_map,Hi2.out];simp[splice,zD]) (ints_oneCell _ _) ?_
   ·intro j v hj;have hj4:j<2:=by have:=(List.getElem?_eq_some_iff.1 hj).1;rwa [List.length_map,Hi2.out] at this
    have hjl:j<(zk it 2).length:=by rw[Hi2.out];exact hj4
    rw[Addr.add_mid,Nat.zero_add,Hcell.out j hj4,←hj];simp[List.getD_eq_getElem?_getD,hjl]
   intro x3 hb3 hc3;have HB4:Hid _:=HB2.out.put hc3 hb3.out;have HS3:Hid _:=hc3.cell HS2.out (by omega);refine⟨HS3.out,?_⟩;clear hb3 hc3;go_simp;refine zt (by kernel_rfl) (NoPanic.normal ?_);go_wp2;go_meet;exact HB4.out
  case rest=>
   have HBn:Hid _:=hcut;generalize wc=we at*;clear hcut;go_upto_region 5 with fail;go_cut [21] (fun _ wx=>Beg w wx (.cells #[zb h0,zb h1,zb h2,zb h3,za kd,za it,za sq] 138 (0,0)) (splice (splice ((splice Z64 0 [zb h0,zb h1,zb h2,zb h3]).set 4 (zb kd)) 6 ((zk it 2).map (Value.int .u8))) 8 ((zk sq 4).map (Value.int .u8))))
   case first=>
    have HB1:Hid _:=HBn.out.chg (Chg.drew (Chg.refl 0 0 we));have HS0:Hid ((fun w':World=>w'.cell? ⟨w.heap.size,6,none⟩=some (za sq)) we.drew):=by
     have hb:=HB1.out.b0;show _=_;simp[World.cell?,hb]
    refine zp (fun w':World=>w'.cell? ⟨w.heap.size,6,none⟩=some (za sq)) (by kernel_rfl) ?_;refine hTk 0 (.slice (some ⟨w.heap.size+1+1,8,none⟩) 4 56) rfl (fun w' hw'=>by go_simp) HS0.out ?_;go_simp;refine hTk 1 (.pointer (some ⟨w.heap.size,6,none⟩)) rfl (fun w' hw'=>by go_simp) HS0.out ?_;go_simp;refine hTk 2 (za sq) rfl (fun w' hw'=>by have h4:w'.cell? _=_:=hw';go_simp) HS0.out ?_;go_simp;generalize we.drew=x1 at*
    have hlt:=HB1.out.lt;have hN:=jc x1 sq 4 (by omega);refine zg 3 rfl rfl (by kernel_rfl) ?_;refine zl 104 #[za sq,za 4] (by first|kernel_rfl|go_simp) hN ?_;rintro e x2 ⟨r,rfl,o2,c2⟩;have HB2:Hid _:=HB1.out.chg c2;have HS2:Hid _:=c2.cell HS0.out (by omega);obtain⟨g,gc,rfl,hcell⟩: ∃g gc,r= .slice (some (zd g)) 4 gc∧ ∀i,i<4→x2.cell? ⟨g,i,none⟩=some (zb ((zk sq 4).getD i 0)):=by
     have hv:=o2.view (hi:=x2.heap.size) (by rw[Hq4.out];omega) (fun g hg=>(o2.lt g hg).2);rcases o2.2 with⟨_,h0⟩|⟨g,gc,cur,rfl,_⟩
     ·rw[Hq4.out] at h0;omega
     ·refine⟨g,gc,by rw[Hq4.out],fun i hi=>hv.cellAt' i (by rw[Hq4.out];exact hi)⟩
    refine⟨_,rfl,HS2.out,?_⟩;have Hcell:Hid _:=hcell;clear hN o2 c2 hcell;go_simp;refine zg 4 rfl rfl (by kernel_rfl) ?_;refine jk (.tmp 17) (.tmp 20) 22 22 rfl 5 Tryz.underlying22 (by kernel_rfl) (w.heap.size+1+1) 8 4 56 (zd g) 4 gc rfl rfl (splice ((splice Z64 0 [zb h0,zb h1,zb h2,zb h3]).set 4 (zb kd)) 6 ((zk it 2).map (Value.int .u8))) 72 HB2.out.b2 ((zk sq 4).map (Value.int .u8)) (by rw[List.length_map,Hq4.out];rfl) ?_ (by rw[List.length_map,Hq4.out];simp[splice,zD,Hi2.out]) (ints_oneCell _ _) ?_
    ·intro j v hj;have hj4:j<4:=by have:=(List.getElem?_eq_some_iff.1 hj).1;rwa [List.length_map,Hq4.out] at this
     have hjl:j<(zk sq 4).length:=by rw[Hq4.out];exact hj4
     rw[Addr.add_mid,Nat.zero_add,Hcell.out j hj4,←hj];simp[List.getD_eq_getElem?_getD,hjl]
    intro x3 hb3 hc3;have HB4:Hid _:=HB2.out.put hc3 hb3.out;have HS3:Hid _:=hc3.cell HS2.out (by omega);refine⟨HS3.out,?_⟩;clear hb3 hc3;go_simp;refine zt (by kernel_rfl) (NoPanic.normal ?_);go_wp2;go_meet;exact HB4.out
   case rest=>
    have HBm:Hid _:=hcut;generalize wc=wf at*;clear hcut HBn;have hF:splice (splice ((splice Z64 0 [zb h0,zb h1,zb h2,zb h3]).set 4 (zb kd)) 6 ((zk it 2).map (Value.int .u8))) 8 ((zk sq 4).map (Value.int .u8))=(XD h0 h1 h2 h3 kd it sq).map (Value.int .u8):=by
     unfold XD
     match h2':zk it 2,Hi2.out,h4':zk sq 4,Hq4.out with
     | [a,b],_,[c,d,e,f],_=>unfold Z64 splice;rfl
    rw[hF] at HBm;have hln:((XD h0 h1 h2 h3 kd it sq).map (Value.int .u8)).length=64:=by
     rw[List.length_map];unfold XD;simp[Hi2.out,Hq4.out]
    obtain⟨cs,hcs⟩: ∃cs,cs=(XD h0 h1 h2 h3 kd it sq).map (Value.int .u8):=⟨_,rfl⟩;have HV2:Hid (∀v∈cs,v.oneCell'=true):=by show∀v∈cs,v.oneCell'=true;rw[hcs];exact ints_oneCell _ _
    rw[←hcs] at HBm hln;have Hcs:Hid _:=hcs;have hics:(Tryz.prog.info? 72).map (·.size)=some cs.length:=by rw[hln];kernel_rfl
    have Hln:Hid _:=hln;have u44:=Tryz.underlying72;have HR:Hid _:=zj HBm.out.b2;have hlt:=HBm.out.lt;clear hF hln hcs;go_wp2_with (first
     |(refine wpList_load_mid rfl 72 (.tmp 3) rfl (w.heap.size+1+1) 0 rfl cs _ HR.out u44 rfl hics ?_)
     |(refine wpList_store_row rfl 72 (.tmp 2) (.tmp 22) rfl rfl (w.heap.size+1) rfl cs Z64 72 rfl HBm.out.b1 (by rw[zD];exact Hln.out) hics HV2.out ?_;intro wg hbg hcg))
    have HCg:Hid _:=HBm.out.ch.step hcg (by omega);have hl1:(loadVar 72 (zd (w.heap.size+1))).run Tryz.prog wg= .ok (.agg cs.toArray) wg:=run_loadVar_mid _ _ _ _ cs _ (zj hbg) u44 rfl hics;go_wp2;exact bodyPost_ret (v:= .agg cs.toArray) (zu Tryz.results103 rfl hl1) rfl ⟨by rw[Hcs.out],HCg.out⟩
structure Enc (w x:World)(B:Nat)(hd:Obj)(cur:List Value):Prop where
 b0:x.heap[w.heap.size]?=some hd
 b1:x.heap[w.heap.size+1]?=some (.cells Z64.toArray 72 (0,0))
 b2:x.heap[B]?=some (.cells cur.toArray 72 (0,0))
 lo:w.heap.size+1<B
 ch:Chg 0 0 w x
theorem Enc.lt {w x:World}{B:Nat}{hd:Obj}{cur:List Value}(h:Enc w x B hd cur):B<x.heap.size:=(gLt h.b2)
theorem Enc.chg {w x y:World}{B:Nat}{hd:Obj}{cur:List Value}(h:Enc w x B hd cur)(c:Chg 0 0 x y):Enc w y B hd cur:=
 have:=h.lt
 have:=h.lo
 ⟨(c.block _ (by omega) (by omega)).trans h.b0,(c.block _ (by omega) (by omega)).trans h.b1,(c.block _ (by omega) (by omega)).trans h.b2,h.lo,h.ch.trans c⟩
theorem Enc.put {w x y:World}{B:Nat}{hd:Obj}{cur cur':List Value}(h:Enc w x B hd cur)(c:Chg B (B+1) x y)(hb:y.heap[B]?=some (.cells cur'.toArray 72 (0,0))):Enc w y B hd cur':=
 have:=h.lt
 have:=h.lo
 ⟨(c.block _ (by omega) (by omega)).trans h.b0,(c.block _ (by omega) (by omega)).trans h.b1,hb,h.lo,h.ch.step c (by omega)⟩
theorem UV {h0 h1 h2 h3 kd it sq:Int}(hi2:(zk it 2).length=2)(hq4:(zk sq 4).length=4):(XD h0 h1 h2 h3 kd it sq).length=64:=by
 unfold XD;simp[hi2,hq4]
theorem zr.str {w:World}{lo hi:Nat}{v:Value}{xs:List Int}(h:zr w lo hi .u8 v xs):(convert 22 9 v).run Tryz.prog w= .ok (.string (strOfNums xs)) w:=by
 obtain⟨ao,cap,rfl,_,_,hcell⟩:=h
 cases ao with
 |none=>
  rcases hcell with rfl|⟨b,off,e,_⟩
  ·exact run_convert_bytes_nil w 22 5 Tryz.underlying22 Tryz.underlying5 0 cap 9 Tryz.underlying9
  ·cases e
 |some a=>
  have hl:(loadCells a xs.length).run Tryz.prog w= .ok (xs.map (Value.int .u8)).toArray w:=by
   have:=run_loadCells_list (P:=Tryz.prog) w a (xs.map (Value.int .u8)) (fun j v hj=>by
    have hjl:j<xs.length:=by have:=(List.getElem?_eq_some_iff.1 hj).1;simpa using this
    rcases hcell with rfl|⟨b,off,e,_,_,hc⟩
    ·simp at hjl
    ·cases e
     rw[Go.WideShapes.add_plain,hc j hjl,←hj];simp[List.getD_eq_getElem?_getD,hjl])
   simpa using this
  rw[run_convert_bytes_string w 22 9 5 _ _ _ Tryz.underlying22 Tryz.underlying5 Tryz.underlying9,run_bytesToString w _ _ _ xs hl,foldl_push_bytes];simp[strOfNums,ByteArray.empty,ByteArray.emptyWithCapacity];rfl
theorem zr.take {w:World}{lo hi:Nat}{k:IntKind}{ao:Option Addr}{n cap:Nat}{xs:List Int}(h:zr w lo hi k (.slice ao n cap) xs)(m:Nat)(hm:m≤xs.length):zr w lo hi k (.slice ao m cap) (xs.take m):=by
 obtain⟨ao',cap',e,hl,⟨hc,hc'⟩,h⟩:=h
 cases e
 have hlen:(xs.take m).length=m:=by rw[List.length_take];omega
 refine⟨ao,cap,by rw[hlen],by omega,⟨by omega,hc'⟩,?_⟩;rcases h with h|⟨b,off,ha,h1,h2,h3⟩
 ·left;rw[h];simp
 ·refine Or.inr ⟨b,off,ha,h1,h2,fun i hi=>?_⟩;rw[hlen] at hi;have e:(xs.take m).getD i 0=xs.getD i 0:=by
   simp only[List.getD_eq_getElem?_getD,List.getElem?_take];rw[if_pos hi]
  rw[e];exact h3 i (by omega)
theorem Uy (w:World){lo hi lo' hi':Nat}{a b:Value}{xs ys:List Int}(hx:Byt xs)(hy:Byt ys)(h1:zr w lo hi .u8 a xs)(h2:zr w lo' hi' .u8 b ys):
  Calls Tryz.prog 137 #[a,b] w fun e w'=>e= .returned (.bool (decide (xs=ys)))∧w'=w:=by
 have c1:=h1.str;have c2:=h2.str;have hb:=adc hx hy;obtain⟨ao,cap,rfl,_⟩:=h1;obtain⟨bo,cap',rfl,_⟩:=h2;generalize strOfNums xs=s at*;generalize strOfNums ys=t at*;generalize decide (xs=ys)=r at*;go_enter Tryz.func137,Tryz.ntmps137;go_wp2;go_ret;exact⟨rfl,rfl⟩
theorem JE (w:World):Calls Tryz.prog 112 #[] w fun e w'=>e= .returned (.slice (some (zd w.heap.size)) 4 4)∧zi w' w.heap.size 5 (.slice (some (zd w.heap.size)) 4 4) mg∧Chg 0 0 w w':=by
 have HO:Hid (zi (w.alloc (.cells #[zb 106,zb 108,zb 111,zb 103] 5)) w.heap.size 5 (.slice (some (zd w.heap.size)) 4 4) mg):=by
  show zi _ _ _ _ _;have:=World.ownsRow_lit (base:=w.heap.size) (e:=5) (size:=1) w #[zb 106,zb 108,zb 111,zb 103] 4 (Nat.le_refl _) (by unfold maxLen;omega) rfl;simpa [zi,mg] using this
 have HC:Hid (Chg 0 0 w (w.alloc (.cells #[zb 106,zb 108,zb 111,zb 103] 5))):=Chg.alloc (Chg.refl 0 0 w) _;go_enter Tryz.func112,Tryz.ntmps112;go_wp2;go_ret;exact⟨rfl,HO.out,HC.out⟩
def beg (xs:List Int):Bool:=decide (4≤xs.length)&&decide (xs.take 4=mg)
theorem Ku (w:World){lo hi:Nat}{a:Value}{xs:List Int}(hB:Byt xs)(h1:zr w lo hi .u8 a xs):
  Calls Tryz.prog 115 #[a] w fun e w'=>e= .returned (.bool (beg xs))∧Chg 0 0 w w':=by
 have v0:=h1;obtain⟨ao,cap,rfl,hl,_,_⟩:=h1;by_cases h4:4≤xs.length
 ·have hi4:(xs.length:Int)≥4:=by omega
  have hc4:4≤cap:=by
   obtain⟨_,_,ev,_,⟨hc,_⟩,_⟩:=v0;simp only[Value.slice.injEq] at ev;omega
  have hb:beg xs=decide (xs.take 4=mg):=by unfold beg;rw[decide_eq_true h4];rfl
  rw[hb];have HV:Hid (zr w lo hi .u8 (.slice ao xs.length cap) xs):=v0;have HB:Hid (Byt xs):=hB;have HL:Hid (4≤xs.length):=h4;clear v0 hb hB h4;go_enter Tryz.func115,Tryz.ntmps115;go_wp2;go_region_with (first
   |(go_at_call 112;refine(JE _).mono ?_;rintro e w' ⟨rfl,ho,hc⟩)
   |(go_at_call 137;refine(Uy (xs:=xs.take 4) (ys:=mg) _ (HB.out.take 4) Ul ((HV.out.take 4 HL.out).chg ((Chg.drew (Chg.refl 0 0 w)).trans hc) (by omega)) (ho.view (hi:=w'.heap.size) (by simp[mg]) (fun g hg=>(ho.lt g hg).2))).mono ?_;rintro e w'' ⟨rfl,rfl⟩))
  all_goals (try go_wp2)
  all_goals (go_ret;exact⟨rfl,(Chg.drew (Chg.refl 0 0 w)).trans hc⟩)
 ·have hi4: ¬(xs.length:Int)≥4:=by omega
  have hb:beg xs=false:=by unfold beg;rw[decide_eq_false h4];rfl
  rw[hb];have hd:decide ((xs.length:Int)≥4)=false:=by simpa using hi4
  clear v0 hi4 hb;go_enter Tryz.func115,Tryz.ntmps115;go_wp2;go_quiet (fail);go_wp2;go_ret;exact⟨rfl,(Chg.refl 0 0 w).drewN _⟩
theorem ZM (w:World){lo hi:Nat}{a:Value}{xs:List Int}(hl:xs.length≤1048576)(h1:zr w lo hi .u8 a xs):
  Calls Tryz.prog 74 #[a] w fun e w'=> ∃v,e= .returned v∧zi w' w.heap.size 5 v xs∧Chg 0 0 w w':=by
 obtain⟨i,hi,hz0,hz1,hz2⟩:=info_parts Tryz.infoU;obtain⟨ao,cap,rfl,_,⟨_,hnil⟩,h1⟩:=h1;have C0:Chg 0 0 w (w.alloc (.cells #[] 5)):=Chg.alloc (Chg.refl 0 0 w) _;have O0:(w.alloc (.cells #[] 5)).ownsRow w.heap.size 5 1 (.slice (some (zd w.heap.size)) 0 0) 0 []:=by
  have:=World.ownsRow_lit (base:=w.heap.size) (e:=5) (size:=1) w #[] 0 (Nat.le_refl _) (by unfold maxLen;omega) rfl;simpa using this
 have HO0:Hid ((w.alloc (.cells #[] 5)).ownsRow w.heap.size 5 1 (.slice (some (zd w.heap.size)) 0 0) 0 []):=O0;have HC0:Hid (Chg 0 0 w (w.alloc (.cells #[] 5))):=C0;have bs:Hid (w.heap.size≤(w.alloc (.cells #[] 5)).heap.size):=by show _≤_;simp
 cases ao with
 |none=>
  obtain rfl:xs= []:=by
   rcases h1 with h1|⟨b,off,e,_⟩
   ·exact h1
   ·cases e
  obtain rfl:cap=0:=hnil rfl;clear h1 hnil C0;go_enter Tryz.func74,Tryz.ntmps74;go_wp2_with (at_builtin;refine wpList_append_own_none rfl (.tmp 3) (.tmp 4) 22 rfl w.heap.size 5 i 1 Tryz.underlying22 hi _ 0 [] rfl HO0.out rfl ?_);go_ret;exact⟨_,rfl,HO0.out,HC0.out⟩
 |some ad=>
  have hsrc: ∀j u,(xs.map (Value.int .u8))[j]?=some u→(w.alloc (.cells #[] 5)).cell? (ad.add j)=some u:=by
   intro j u hj;have hjl:j<xs.length:=by have:=(List.getElem?_eq_some_iff.1 hj).1;simpa using this
   rcases h1 with h1|⟨b,off,e,_,_,hc⟩
   ·rw[h1] at hjl;simp at hjl
   ·cases e
    rw[Addr.add_mid,C0.cell (hc j hjl) (by omega),←hj];simp[List.getD_eq_getElem?_getD,hjl]
  have Hsrc:Hid (∀j u,(xs.map (Value.int .u8))[j]?=some u→(w.alloc (.cells #[] 5)).cell? (ad.add j)=some u):=hsrc;clear h1 hnil hsrc C0;go_enter Tryz.func74,Tryz.ntmps74;go_wp2_with (at_builtin;refine wpList_append_own _ rfl (.tmp 3) (.tmp 4) 22 rfl w.heap.size 5 i (zb 0) 1 1 Tryz.underlying22 hi hz0 hz1 hz2 rfl (by decide) _ 0 [] rfl HO0.out ad xs.length cap (xs.map (Value.int .u8)) rfl (by simp) Hsrc.out (ints_oneCell _ _) (by unfold maxLen;omega) (by omega) bs.out ?_)
  intro v' w1 hown hgrow _;have HO:Hid (zi w1 w.heap.size 5 v' xs):=by
   show zi _ _ _ _ _;unfold zi;simpa using hown
  have HC:Hid (Chg 0 0 w w1):=HC0.out.step (Chg.ofGrown (lo:=w.heap.size) (hi:=w.heap.size+1) hgrow (fun k hk _=>by simp only[Value.ownBlock,Option.some.injEq] at hk;omega)) (Or.inr (Or.inl (Nat.le_refl _)));clear hown hgrow HO0 HC0 Hsrc bs;go_wp2;go_ret;exact⟨_,rfl,HO.out,HC.out⟩
theorem qM (w:World)(n:Nat)(hn:n≤1048576):
  Calls Tryz.prog 44 #[za n] w fun e w'=> ∃g,e= .returned (.slice (some (zd g)) n n)∧zi w' w.heap.size 5 (.slice (some (zd g)) n n) (List.replicate n 0)∧Chg 0 0 w w':=by
 obtain⟨i,hi,hz0,hz1,hz2⟩:=info_parts Tryz.infoU;go_enter Tryz.func44,Tryz.ntmps44;go_wp2_with (at_make;refine wpList_make_full _ rfl _ _ 22 rfl w.heap.size 5 i (zb 0) 1 Tryz.underlying22 hi hz0 hz1 _ _ _ _ n rfl rfl (by omega) (by omega) (by rw[hz2];omega) (by unfold maxLen;omega) (by omega) ?_);intro w1 hown hgrow;have HO:Hid (zi w1 w.heap.size 5 (.slice (some (zd w.heap.size)) n n) (List.replicate n 0)):=by
  show zi _ _ _ _ _;unfold zi;simpa [toList_madeCells_one] using hown
 have HC:Hid (Chg 0 0 w w1):=Chg.ofGrown hgrow (by simp);clear hown hgrow;go_wp2;go_ret;exact⟨_,rfl,HO.out,HC.out⟩
theorem zX (w:World){lo hi lo':Nat}{a:Value}{xs ys:List Int}{b off n cap:Nat}(hl:xs.length≤1048576)(hl':ys.length≤1048576)(h1:zr w lo hi .u8 a xs)(h2:zr w lo' w.heap.size .u8 (.slice (some ⟨b,off,none⟩) n cap) ys):
  Calls Tryz.prog 47 #[a,.slice (some ⟨b,off,none⟩) n cap] w fun e w'=> ∃v,e= .returned v∧zi w' w.heap.size 5 v (xs++ys)∧Chg 0 0 w w':=by
 obtain⟨i,hi,hz0,hz1,hz2⟩:=info_parts Tryz.infoU;have hN:=ZM w hl h1;obtain⟨_,_,e,_,_,hcell⟩:=h2;simp only[Value.slice.injEq] at e;obtain⟨rfl,rfl,rfl⟩:=e;have hc: ∀i,i<ys.length→w.cell? ⟨b,off+i,none⟩=some (zb (ys.getD i 0)):=by
  rcases hcell with e|⟨_,_,e,_,h3,h4⟩
  ·intro i hi;rw[e] at hi;exact absurd hi (Nat.not_lt_zero i)
  ·cases e;exact h4
 have Hc:Hid (∀i,i<ys.length→w.cell? ⟨b,off+i,none⟩=some (zb (ys.getD i 0))):=hc;have hay: ∃ao n c,a= .slice ao n c:=by obtain⟨ao,c,rfl,_⟩:=h1;exact⟨ao,_,c,rfl⟩
 obtain⟨ao,an,ac,rfl⟩:=hay;clear hcell hc h1;go_enter Tryz.func47,Tryz.ntmps47;go_wp2_with fail;refine hN.mono ?_;rintro e w1 ⟨v1,rfl,o1,hc1⟩;have hrow:w1.ownsRow w.heap.size 5 1 v1 xs.length (xs.map (Value.int .u8)):=o1;obtain⟨so,sn,sc,rfl⟩:=zx hrow;have HO1:Hid (w1.ownsRow w.heap.size 5 1 (.slice so sn sc) xs.length (xs.map (Value.int .u8))):=hrow;have hs1:=hc1.size;have HC1:Hid (Chg 0 0 w w1):=hc1
 have HNW:Hid (∀j u,(ys.map (Value.int .u8))[j]?=some u→w1.cell? ((⟨b,off,none⟩:Addr).add j)=some u):=by
  intro j u hj;have hjl:j<ys.length:=by have:=(List.getElem?_eq_some_iff.1 hj).1;simpa using this
  rw[Addr.add_mid,hc1.cell (Hc.out j hjl) (by omega),←hj];simp[List.getD_eq_getElem?_getD,hjl]
 clear hN o1 hc1 hrow;go_wp2_with (at_builtin;refine wpList_append_own _ rfl (.tmp 8) (.tmp 9) 22 rfl w.heap.size 5 i (zb 0) 1 1 Tryz.underlying22 hi hz0 hz1 hz2 rfl (by decide) _ xs.length (xs.map (Value.int .u8)) rfl HO1.out ⟨b,off,none⟩ ys.length cap (ys.map (Value.int .u8)) rfl (by simp) HNW.out (ints_oneCell _ _) (by unfold maxLen;omega) (by omega) (by omega) ?_);intro v' w2 hown hgrow _;have HO:Hid (zi w2 w.heap.size 5 v' (xs++ys)):=by
  show zi _ _ _ _ _;unfold zi;rw[List.length_append,List.map_append];exact hown
 have hrb: ∀k,(Value.slice so sn sc).ownBlock=some k→w.heap.size≤k∧k<w1.heap.size:=fun k hk=>World.ownsRow.lt HO1.out k hk;have HC:Hid (Chg 0 0 w w2):=HC1.out.step (Chg.ofGrown (lo:=w.heap.size) (hi:=w1.heap.size) hgrow (fun k hk _=>hrb k hk)) (Or.inr (Or.inl (Nat.le_refl _)));clear hown hgrow HO1 HC1 HNW hrb;go_wp2;go_ret;exact⟨_,rfl,HO.out,HC.out⟩
theorem jF (w:World){lo hi lo':Nat}{a:Value}{xs ys:List Int}{b off n cap:Nat}(hl:xs.length≤1048576)(hl':ys.length≤1048576)(h1:zr w lo hi .u8 a xs)(h2:zr w lo' w.heap.size .u8 (.slice (some ⟨b,off,none⟩) n cap) ys)(_hy:0<ys.length):
  Calls Tryz.prog 47 #[a,.slice (some ⟨b,off,none⟩) n cap] w fun e w'=> ∃v,e= .returned v∧zi w' w.heap.size 5 v (xs++ys)∧Chg 0 0 w w':=zX w hl hl' h1 h2
def qf (q:Int):Bool:=decide (1≤q)&&decide (q≤4294967295)
theorem jp (w:World)(q:Int):Calls Tryz.prog 72 #[za q] w fun e w'=>e= .returned (.bool (qf q))∧w'=w:=by
 by_cases h1:1≤q
 ·by_cases h2:q≤4294967295
  ·have hg:qf q=true:=by unfold qf;rw[decide_eq_true h1,decide_eq_true h2];rfl
   rw[hg];go_enter Tryz.func72,Tryz.ntmps72;go_wp2;go_ret;exact⟨rfl,rfl⟩
  ·have hg:qf q=false:=by unfold qf;rw[decide_eq_false h2];simp
   rw[hg];go_enter Tryz.func72,Tryz.ntmps72;go_wp2;go_ret;exact⟨rfl,rfl⟩
 ·have hg:qf q=false:=by unfold qf;rw[decide_eq_false h1];rfl
  rw[hg];go_enter Tryz.func72,Tryz.ntmps72;go_wp2;go_ret;exact⟨rfl,rfl⟩
def qc (xs:List Int):List Int:=xs++List.replicate (64-xs.length) 0
theorem Eh (w:World){lo hi:Nat}{a:Value}{xs:List Int}(hl:xs.length<64)(h1:zr w lo hi .u8 a xs):
  Calls Tryz.prog 88 #[a] w fun e w'=> ∃v,e= .returned v∧zi w' w.heap.size 5 v (qc xs)∧Chg 0 0 w w':=by
 have v0:=h1;obtain⟨ao,cap,rfl,_,_,_⟩:=h1;obtain⟨n,hn⟩: ∃n:Nat,n=64-xs.length:=⟨_,rfl⟩;have hN:Calls Tryz.prog 44 #[za (64-(xs.length:Int))] w fun e w'=> ∃g,e= .returned (.slice (some (zd g)) n n)∧zi w' w.heap.size 5 (.slice (some (zd g)) n n) (List.replicate n 0)∧Chg 0 0 w w':=by
  have:=qM w n (by omega);rwa [show((n:Nat):Int)=64-(xs.length:Int) by omega] at this
 have Hn:Hid (n=64-xs.length):=hn;have hn0:0<n:=by omega
 clear hn;go_enter Tryz.func88,Tryz.ntmps88;go_wp2_with fail;refine hN.mono ?_;rintro e w1 ⟨g,rfl,ho,hc⟩;have hs:=hc.size;have hN2:=jF (xs:=xs) (ys:=List.replicate n 0) (lo':=w.heap.size) w1 (by omega) (by simp;have:=Hn.out;omega) (v0.chg hc (by omega)) (ho.view (hi:=w1.heap.size) (by simp;have:=Hn.out;omega) (fun g hg=>(ho.lt g hg).2)) (by simpa using hn0);clear hN ho v0;go_wp2_with fail;refine hN2.mono ?_
 rintro e w2 ⟨v,rfl,o2,hc2⟩;have HO:Hid (zi w2 w.heap.size 5 v (qc xs)):=by
  show zi _ _ _ _ _;unfold qc;rw[←Hn.out];exact o2.base (fun g hg=>by have:=(o2.lt g hg).1;omega)
 have HC:Hid (Chg 0 0 w w2):=hc.trans hc2;clear hN2 o2 hc2 hc;go_wp2;go_ret;exact⟨_,rfl,HO.out,HC.out⟩
theorem EK {o:Oper}{a:Act}{w:World}{K:Act→World→Prop}{Q:Exit→Act→World→Prop}(s x:Operand)
  (ho:o.op= .call {callee:= .builtin .append,args:= #[s,x],argTypes:= #[22,22]})
  (base:Nat) (sv:Value) (xs:List Int) (hs:a.eval s=sv) (hO:zi w base 5 sv xs) (hbase:base≤w.heap.size) (lo hi:Nat) (xv:Value) (ys:List Int) (hx:a.eval x=xv) (hv:zr w lo hi .u8 xv ys) (hy:0<ys.length) (hl:xs.length+ys.length≤1048576)
  (h: ∀v' w',zi w' base 5 v' (xs++ys)→Chg base w.heap.size w w'→K (a.put o.dst v') w'):o.wp Tryz.prog a w K Q:=by
 obtain⟨i,hi,hz0,hz1,hz2⟩:=info_parts Tryz.infoU1;obtain⟨ao,cap,rfl,_,_,hcell⟩:=hv;obtain⟨b,off,rfl,hc⟩: ∃b off,ao=some ⟨b,off,none⟩∧ ∀i,i<ys.length→w.cell? ⟨b,off+i,none⟩=some (zb (ys.getD i 0)):=by
  rcases hcell with e|⟨b,off,e,_,_,h3⟩
  ·rw[e] at hy;simp at hy
  ·exact⟨b,off,e,h3⟩
 have HNW: ∀j u,(ys.map (Value.int .u8))[j]?=some u→w.cell? ((⟨b,off,none⟩:Addr).add j)=some u:=by
  intro j u hj;have hjl:j<ys.length:=by have:=(List.getElem?_eq_some_iff.1 hj).1;simpa using this
  rw[Addr.add_mid,hc j hjl,←hj];simp[List.getD_eq_getElem?_getD,hjl]
 have hrow:w.ownsRow base 5 1 sv xs.length (xs.map (Value.int .u8)):=hO;refine wp_append_own _ s x 22 ho base 5 i (zb 0) 1 1 Tryz.underlying22 hi hz0 hz1 hz2 rfl (by decide) sv xs.length (xs.map (Value.int .u8)) hs hrow ⟨b,off,none⟩ ys.length cap (ys.map (Value.int .u8)) hx (by simp) HNW (ints_oneCell _ _) (by unfold maxLen;omega) (by omega) hbase ?_;intro v' w2 hown hgrow _;refine h v' w2 ?_ (Chg.ofGrown hgrow (fun k hk _=>World.ownsRow.lt hrow k hk))
 unfold zi;rw[List.length_append,List.map_append];exact hown
theorem zV {ops:Array Oper}{rest:List Oper}{o:Oper}{a:Act}{w:World}{Q:Exit→Act→World→Prop}(hgd:o.guard=none)(s x:Operand)
  (ho:o.op= .call {callee:= .builtin .append,args:= #[s,x],argTypes:= #[22,22]})
  (base:Nat) (sv:Value) (xs:List Int) (hs:a.eval s=sv) (hO:zi w base 5 sv xs) (hbase:base≤w.heap.size) (lo hi:Nat) (xv:Value) (ys:List Int) (hx:a.eval x=xv) (hv:zr w lo hi .u8 xv ys) (hy:0<ys.length) (hl:xs.length+ys.length≤1048576)
  (h: ∀v' w',zi w' base 5 v' (xs++ys)→Chg base w.heap.size w w'→wpList Tryz.prog ops Q rest (a.put o.dst v') w'):wpList Tryz.prog ops Q (o::rest) a w:=
 wpList_plain hgd fun _ hK=>EK s x ho base sv xs hs hO hbase lo hi xv ys hx hv hy hl fun v' w' h1 h2=>hK _ _ (h v' w' h1 h2)
def zm (k c q:Int):List Int:=mg++ [k,0]++zk c 2++zk q 4
theorem ZN (w:World)(k c q:Int)(hk:0≤k∧k<256)(hc:c≤9223372036854775807)(hq:q≤9223372036854775807)(hc2:(zk c 2).length=2)(hq4:(zk q 4).length=4):
  Calls Tryz.prog 73 #[za k,za c,za q] w fun e w'=> ∃v,e= .returned v∧zi w' w.heap.size 5 v (zm k c q)∧Chg 0 0 w w':=by
 have hN:=JE w;obtain⟨k0,k1⟩:=hk;have Hc2:Hid ((zk c 2).length=2):=hc2;have Hq4:Hid ((zk q 4).length=4):=hq4;clear hc2 hq4;go_enter Tryz.func73,Tryz.ntmps73;go_wp2_with fail;refine hN.mono ?_;rintro e w1 ⟨rfl,o1,ch1⟩;have s1:=ch1.size;have c2:Chg 0 0 w1 (w1.alloc (.cells #[zb k,zb 0] 5)):=Chg.alloc (Chg.refl 0 0 w1) _;have HO2:Hid (zi (w1.alloc (.cells #[zb k,zb 0] 5)) w.heap.size 5 (.slice (some (zd w.heap.size)) 4 4) mg):=o1.chg c2 (by intro g _;omega)
 have HV2:Hid (zr (w1.alloc (.cells #[zb k,zb 0] 5)) w1.heap.size (w1.heap.size+1) .u8 (.slice (some (zd w1.heap.size)) 2 2) [k,0]):=by
  refine⟨_,2,rfl,by simp,⟨by simp,by simp⟩,Or.inr ⟨_,0,rfl,Nat.le_refl _,Nat.lt_succ_self _,fun i hi=>?_⟩⟩;have hi2:i<2:=by simpa using hi
  have hn:=zh w1 (.cells #[zb k,zb 0] 5);simp only[World.cell?,hn];rcases i with _|_|i
  all_goals first|rfl|omega
 have b2:Hid (w.heap.size≤(w1.alloc (.cells #[zb k,zb 0] 5)).heap.size):=Nat.le_trans s1 c2.size;have HC2:Hid (Chg 0 0 w (w1.alloc (.cells #[zb k,zb 0] 5))):=ch1.trans c2;clear o1 ch1 c2 hN;go_wp2_with (at_builtin;refine zV rfl (.tmp 8) (.tmp 11) rfl w.heap.size _ mg rfl HO2.out b2.out _ _ _ [k,0] rfl HV2.out (by simp) (by simp[mg]) ?_);intro v3 w3 o3 ch3;have C3:Chg 0 0 w w3:=HC2.out.step ch3 (Or.inr (Or.inl (Nat.le_refl _)))
 have s3:=C3.size;obtain⟨e3,l3,k3,rfl⟩:=zx o3;have HO3:Hid (zi w3 w.heap.size 5 (.slice e3 l3 k3) (mg++ [k,0])):=o3;have HC3:Hid (Chg 0 0 w w3):=C3;have hN:=zI w3 c 2 hc;clear o3 ch3 C3 HC2 b2 HV2 HO2;go_wp2_with fail;refine hN.mono ?_;rintro e w4 ⟨v4,rfl,o4,ch4⟩;have s4:=ch4.size;have HO4:Hid (zi w4 w.heap.size 5 (.slice e3 l3 k3) (mg++ [k,0])):=HO3.out.chg ch4 (by intro g _;omega);have HV4:Hid (zr w4 w3.heap.size w4.heap.size .u8 v4 (zk c 2)):=o4.view (by rw[Hc2.out];omega) (fun g hg=>(o4.lt g hg).2)
 have HC4:Hid (Chg 0 0 w w4):=HC3.out.trans ch4;have b4:w.heap.size≤w4.heap.size:=by omega
 have p2:Hid (0<(zk c 2).length):=by show _<_;rw[Hc2.out];omega
 have m2:Hid ((mg++ [k,0]).length+(zk c 2).length≤1048576):=by show _≤_;rw[Hc2.out];simp[mg]
 obtain⟨e4,l4,k4,rfl⟩:=zx o4;clear o4 ch4 hN HO3 HC3;go_wp2_with (at_builtin;refine zV rfl (.tmp 13) (.tmp 15) rfl w.heap.size _ (mg++ [k,0]) rfl HO4.out b4 _ _ _ (zk c 2) rfl HV4.out p2.out m2.out ?_);intro v5 w5 o5 ch5;have C5:Chg 0 0 w w5:=HC4.out.step ch5 (Or.inr (Or.inl (Nat.le_refl _)));have s5:=C5.size;obtain⟨e5,l5,k5,rfl⟩:=zx o5;have HO5:Hid (zi w5 w.heap.size 5 (.slice e5 l5 k5) (mg++ [k,0]++zk c 2)):=o5
 have HC5:Hid (Chg 0 0 w w5):=C5;have hN:=zI w5 q 4 hq;clear o5 ch5 C5 HC4 HV4 HO4;go_wp2_with fail;refine hN.mono ?_;rintro e w6 ⟨v6,rfl,o6,ch6⟩;have s6:=ch6.size;have HO6:Hid (zi w6 w.heap.size 5 (.slice e5 l5 k5) (mg++ [k,0]++zk c 2)):=HO5.out.chg ch6 (by intro g _;omega);have HV6:Hid (zr w6 w5.heap.size w6.heap.size .u8 v6 (zk q 4)):=o6.view (by rw[Hq4.out];omega) (fun g hg=>(o6.lt g hg).2);have HC6:Hid (Chg 0 0 w w6):=HC5.out.trans ch6
 have b6:w.heap.size≤w6.heap.size:=by omega
 have p4:Hid (0<(zk q 4).length):=by show _<_;rw[Hq4.out];omega
 have m4:Hid ((mg++ [k,0]++zk c 2).length+(zk q 4).length≤1048576):=by show _≤_;rw[Hq4.out,List.length_append,Hc2.out];simp[mg]
 obtain⟨e6,l6,k6,rfl⟩:=zx o6;clear o6 ch6 hN HO5 HC5;go_wp2_with (at_builtin;refine zV rfl (.tmp 17) (.tmp 19) rfl w.heap.size _ (mg++ [k,0]++zk c 2) rfl HO6.out b6 _ _ _ (zk q 4) rfl HV6.out p4.out m4.out ?_);intro v7 w7 o7 ch7;have HC7:Hid (Chg 0 0 w w7):=HC6.out.step ch7 (Or.inr (Or.inl (Nat.le_refl _)));have HO7:Hid (zi w7 w.heap.size 5 v7 (zm k c q)):=o7;clear o7 ch7 HC6 HV6 HO6;go_wp2;go_ret
 exact⟨_,rfl,HO7.out,HC7.out⟩
def qq (w:World) (b:Nat) (T:TypeId) (cs:List Value):Prop:=w.heap[b]?=some (.cells cs.toArray T (0,0))
theorem qq.lt {w:World}{b:Nat}{T:TypeId}{cs:List Value}(h:qq w b T cs):b<w.heap.size:=(gLt h)
theorem qq.cell {w:World}{b:Nat}{T:TypeId}{cs:List Value}(h:qq w b T cs)(i:Nat){v:Value}(hv:cs[i]?=some v):w.cell? ⟨b,i,none⟩=some v:=by
 have h':w.heap[b]?=some (.cells cs.toArray T (0,0)):=h;simp only[World.cell?,h'];simpa using hv
theorem qq.frozen {w:World}{b:Nat}{T:TypeId}{cs:List Value}(h:qq w b T cs)(i:Nat):w.frozen? ⟨b,i,none⟩=false:=by
 have h':w.heap[b]?=some (.cells cs.toArray T (0,0)):=h;simp[World.frozen?,h']
theorem qq.put {w:World}{b:Nat}{T:TypeId}{cs:List Value}(h:qq w b T cs)(i:Nat)(v:Value):qq (w.setCell ⟨b,i,none⟩ v) b T (cs.set i v):=by
 have h':w.heap[b]?=some (.cells cs.toArray T (0,0)):=h;show(w.setCell ⟨b,i,none⟩ v).heap[b]?=_;simp only[World.setCell,Array.getElem?_modify,if_true,h',Option.map_some];simp
theorem qq.chg {w w':World}{b l r:Nat}{T:TypeId}{cs:List Value}(h:qq w b T cs)(c:Chg l r w w')(d:b<l∨r≤b):qq w' b T cs:=(c.block b h.lt d).trans h
theorem qq.new (w:World)(T:TypeId)(cs:List Value):qq (w.alloc (.cells cs.toArray T)) w.heap.size T cs:=zh w _
def z8 (xs:List Int):List Int:=xs.flatMap fun x=>zk x 2
theorem jP {x:Int}(h:0≤x∧x<2048):(zk x 2).length=2:=by
 unfold zk;rw[if_neg (by omega),if_neg (by have:(256:Int)^ (2:Int).toNat=65536:=rfl;rw[this];omega),qw];rfl
theorem Qq {xs:List Int}(h: ∀x∈xs,0≤x∧x<2048):(z8 xs).length=2*xs.length:=by
 unfold z8
 induction xs with
 |nil=>rfl
 |cons x r ih=>
  rw[List.flatMap_cons,List.length_append,jP (h x (by simp)),ih (fun y hy=>h y (by simp[hy])),List.length_cons];omega
theorem KH {xs:List Int}{k:Nat}(h:k<xs.length):z8 (xs.take (k+1))=z8 (xs.take k)++zk (xs.getD k 0) 2:=by
 unfold z8;rw[List.take_succ_eq_append_getElem h,List.flatMap_append];simp[List.getD_eq_getElem?_getD,h]
theorem zi.two {x:World}{base:Nat}{e:TypeId}{r:Value}{xs:List Int}{n:Nat}(o2:zi x base e r xs)(hn:xs.length=n)(hp:0<n)(hb:n≤1048576):
  ∃g gc,r= .slice (some (zd g)) n gc∧ ∀j v,(xs.map (Value.int .u8))[j]?=some v→x.cell? (((zd g):Addr).add j)=some v:=by
 have hv:=o2.view (hi:=x.heap.size) (by omega) (fun g hg=>(o2.lt g hg).2);rcases o2.2 with⟨_,h0⟩|⟨g,gc,cur,rfl,hg,hh,h1,h2,h3,h4⟩
 ·omega
 ·refine⟨g,gc,by rw[hn],fun j v hj=>?_⟩;rw[Addr.add_mid,Nat.zero_add];have hj':cur.toList[j]?=some v:=by
   rw[←h4] at hj;rw[List.getElem?_take] at hj;split at hj
   ·exact hj
   ·cases hj
  simp only[World.cell?,hh];simpa using hj'
theorem abP (v:Int)(n:Nat):Byt (Zh v n):=by
 induction n with
 |zero=>intro x hx;cases hx
 |succ n ih=>
  intro x hx;rcases List.mem_cons.1 hx with rfl|hx
  ·exact⟨Int.emod_nonneg _ (by decide),Int.emod_lt_of_pos _ (by decide)⟩
  ·exact ih x hx
theorem qh (v n:Int):Byt (zk v n):=by
 unfold zk;split
 ·intro x hx;cases hx
 ·split
  ·intro x hx;cases hx
  ·exact abP _ _
end Go.Proofs.YtacjklochmelfaaGreatDoor
