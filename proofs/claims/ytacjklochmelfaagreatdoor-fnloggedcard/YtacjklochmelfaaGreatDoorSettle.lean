import Derived.Test.YtacjklochmelfaaGreatDoorValid
import Derived.Test.YtacjklochmelfaaGreatDoorCells2
import Derived.Test.YtacjklochmelfaaGreatDoorCopyRow
import Derived.Deep.RegionHeld3
import Derived.Deep.MidRow
import Derived.Laws.ResultCell
namespace Go.Proofs.YtacjklochmelfaaGreatDoor
open Go.RowKit
set_option maxRecDepth 100000
set_option maxHeartbeats 16000000
theorem Tryz.infoK:(Tryz.prog.info? 72).map (fun i=>(i.zero,i.size,i.bytes))=some (some (.agg (List.replicate 64 (Value.int .u8 0)).toArray),64,64):=by kernel_rfl
theorem Tryz.infoC:(Tryz.prog.info? 86).map (fun i=>(i.zero,i.size,i.bytes))=some (some (.agg (za 0::List.replicate 64 (Value.int .u8 0)).toArray),65,72):=by kernel_rfl
def YW (n:Nat):Array Value:=madeCells (List.replicate 64 (Value.int .u8 0)).toArray (n*64)
def Jr (n:Nat):Array Value:=madeCells (za 0::List.replicate 64 (Value.int .u8 0)).toArray (n*65)
theorem adM (w:World)(x:Int)(h0:0≤x)(h1:x≤2048):
  (Instr.makeSlice 80 (za x) (za x)).run Tryz.prog w= .ok (.slice (some (zd w.heap.size)) x.toNat x.toNat) (w.alloc (.cells (YW x.toNat) 72)):=by
 obtain⟨i,hi,hz0,hz1,hz2⟩:=info_parts Tryz.infoK;have:=run_make (P:=Tryz.prog) w 80 72 i _ Tryz.underlying80 hi hz0 .i64 .i64 x x h0 (Int.le_refl _) (by rw[hz2];omega) (by omega);rw[this,hz1];rfl
theorem acY (w:World)(x:Int)(h0:0≤x)(h1:x≤600):
  (Instr.makeSlice 81 (za x) (za x)).run Tryz.prog w= .ok (.slice (some (zd w.heap.size)) x.toNat x.toNat) (w.alloc (.cells (Jr x.toNat) 86)):=by
 obtain⟨i,hi,hz0,hz1,hz2⟩:=info_parts Tryz.infoC;have:=run_make (P:=Tryz.prog) w 81 86 i _ Tryz.underlying81 hi hz0 .i64 .i64 x x h0 (Int.le_refl _) (by rw[hz2];omega) (by omega);rw[this,hz1];rfl
theorem JJ {P:Program}{ops:Array Oper}{o:Oper}{a:Act}{w:World}{K:Act→World→Prop}{Q:Exit→Act→World→Prop}{E:Prop}(hgd:o.guard=none)(d s:Operand)(dT sT:TypeId)
  (ho:o.op= .call {callee:= .builtin .copy,args:= #[d,s],argTypes:= #[dT,sT]}) (elem:TypeId) (hu:P.underlying dT=some (.slice elem)) (hsz:(P.info? elem).map (·.size)=some 1)
  (g off dLen dCap:Nat) (ad:Addr) (sLen sCap:Nat) (hd:a.eval d= .slice (some ⟨g,off,none⟩) dLen dCap) (hs:a.eval s= .slice (some ad) sLen sCap)
  (cur:List Value) (t:TypeId) (hg:w.heap[g]?=some (.cells cur.toArray t (0,0))) (cs:List Value) (hn:cs.length=Nat.min sLen dLen)
  (hsrc: ∀j v,cs[j]?=some v→w.cell? (ad.add j)=some v) (hfit:off+cs.length≤cur.length) (h1: ∀v∈cs,v.oneCell'=true)
  (h: ∀w',Hid (w'.heap[g]?=some (.cells (splice cur off cs).toArray t (0,0)))→Chg g (g+1) w w'→K (a.put o.dst (goInt cs.length)) w'):
  if Region.wanted o (yielded ops a.tmps)=true then Oper.wp P o a w K Q else E:=by
 have hw:Region.wanted o (yielded ops a.tmps)=true:=by simp[Region.wanted,hgd]
 rw[if_pos hw];have hrun:=run_copy_row (P:=P) w dT sT o.type elem g off dLen dCap ad sLen sCap cur.toArray t cs hu hsz hg hn hsrc (by simpa using hfit) h1;unfold Oper.wp;simp[execOp,ho,resolve,invoke,builtin,hd,hs,hrun,Result.andThen];exact h _ (show _=_ by simpa [splice] using setRow_heap w g _ _ t _ hg) (Chg.setRow _ _ _)
theorem Jz (w:World)(a:Addr)(cap:Nat):(Instr.arrayAt 72 (.slice (some a) 64 cap)).run Tryz.prog w= .ok (.pointer (some a)) w:=by
 simp[Instr.arrayAt,run_underlying Tryz.underlying72]
def Zw (xs:List Int) (n k:Nat):List Value:=(xs.take (k*64)).map (Value.int .u8)++List.replicate ((n-k)*64) (zb 0)
theorem KB (z:Value)(m n:Nat)(hm:0<m):(madeCells (List.replicate m z).toArray n).toList=List.replicate n z:=by
 apply List.ext_getElem?;intro j;by_cases hj:j<n
 ·have:j % m<m:=Nat.mod_lt _ hm;simp[madeCells,hj,this]
 ·simp[madeCells,hj]
theorem adl (xs:List Int)(n:Nat):YW n=(Zw xs n 0).toArray:=by
 apply Array.ext';unfold YW Zw;rw[KB _ _ _ (by decide),Nat.zero_mul,List.take_zero,List.map_nil,List.nil_append,Nat.sub_zero]
theorem Yh (xs:List Int)(n k:Nat)(h:xs.length=n*64)(hk:k≤n):(Zw xs n k).length=n*64:=by
 unfold Zw;simp only[List.length_append,List.length_map,List.length_take,List.length_replicate];have:k*64≤n*64:=Nat.mul_le_mul_right _ hk;rw[Nat.min_eq_left (by omega),Nat.sub_mul];omega
theorem Yi (xs:List Int)(n k:Nat)(h:xs.length=n*64)(hk:k<n):splice (Zw xs n k) (k*64) (((xs.drop (k*64)).take 64).map (Value.int .u8))=Zw xs n (k+1):=by
 have h0:(k+1)*64≤n*64:=Nat.mul_le_mul_right _ hk;have h1:(((xs.drop (k*64)).take 64).map (Value.int .u8)).length=64:=by simp;omega
 have hl:((xs.take (k*64)).map (Value.int .u8)).length=k*64:=by simp;omega
 unfold splice;rw[h1];have e1:(Zw xs n k).take (k*64)=(xs.take (k*64)).map (Value.int .u8):=by
  unfold Zw;rw[List.take_append_of_le_length (by omega),List.take_of_length_le (by omega)]
 have e2:(Zw xs n k).drop (k*64+64)=List.replicate ((n-(k+1))*64) (zb 0):=by
  unfold Zw;rw[List.drop_append,List.drop_of_length_le (by omega),hl,List.nil_append,List.drop_replicate];congr 1;have:(n-k)*64=(n-(k+1))*64+64:=by rw[show n-k=(n-(k+1))+1 from by omega,Nat.add_mul]
  omega
 rw[e1,e2];unfold Zw;rw[←List.append_assoc,←List.map_append];congr 2;rw[show(k+1)*64=k*64+64 from by omega,List.take_add]
theorem U6 (xs:List Int)(n:Nat)(h:xs.length=n*64):Zw xs n n=xs.map (Value.int .u8):=by
 unfold Zw;rw[Nat.sub_self,Nat.zero_mul,List.replicate_zero,List.append_nil,List.take_of_length_le (by omega)]
def jE (p:Wr):List Value:=za p.1::p.2.map (Value.int .u8)
def flat (ps:List Wr):List Value:=ps.flatMap jE
theorem j2 (n:Nat)(ps:List Wr)(h: ∀i,i<ps.length→Good n (ps.getD i (0,[]))):(flat ps).length=ps.length*65:=by
 induction ps with
 |nil=>rfl
 |cons p r ih=>
  have h0:=(h 0 (by simp)).2.2;have hr:=ih (fun i hi=>by have:=h (i+1) (by simpa using hi);simpa using this);simp only[flat,List.flatMap_cons,List.length_append,List.length_cons] at*;rw[hr];simp[jE] at*;omega
theorem Yj (a b:List Wr):flat (a++b)=flat a++flat b:=by simp[flat]
def Ju (ps:List Wr) (m k:Nat):List Value:=flat (ps.take k)++(Jr m).toList.drop (k*65)
theorem Yg (m:Nat):(Jr m).toList.length=m*65:=by simp[Jr,madeCells]
theorem aaV (ps:List Wr)(m:Nat):(Ju ps m 0).toArray=Jr m:=by simp[Ju,flat]
theorem XJ {n k:Nat}{ps:List Wr}(h: ∀i,i<ps.length→Good n (ps.getD i (0,[]))): ∀i,i<(ps.take k).length→Good n ((ps.take k).getD i (0,[])):=by
 intro i hi;rw[List.length_take] at hi;have:=h i (by omega);simp only[List.getD_eq_getElem?_getD,List.getElem?_take] at*;rw[if_pos (by omega)];exact this
theorem Eo {n:Nat}(ps:List Wr)(k:Nat)(h: ∀i,i<ps.length→Good n (ps.getD i (0,[])))(hk:k≤ps.length):(Ju ps ps.length k).length=ps.length*65:=by
 have hm:k*65≤ps.length*65:=Nat.mul_le_mul_right _ hk;unfold Ju;rw[List.length_append,j2 n _ (XJ h),List.length_take,Nat.min_eq_left hk,List.length_drop,Yg];omega
theorem Ep {n:Nat}(ps:List Wr)(k:Nat)(h: ∀i,i<ps.length→Good n (ps.getD i (0,[])))(hk:k<ps.length):
  splice (Ju ps ps.length k) (k*65) (jE (ps.getD k (0,[])))=Ju ps ps.length (k+1):=by
 have hl:(flat (ps.take k)).length=k*65:=by rw[j2 n _ (XJ h),List.length_take,Nat.min_eq_left (by omega)]
 have hw:(jE (ps.getD k (0,[]))).length=65:=by
  have:=(h k hk).2.2;simp only[jE,List.length_cons,List.length_map,this]
 unfold splice;rw[hw];have e1:(Ju ps ps.length k).take (k*65)=flat (ps.take k):=by
  unfold Ju;rw[List.take_append_of_le_length (by omega),List.take_of_length_le (by omega)]
 have e2:(Ju ps ps.length k).drop (k*65+65)=(Jr ps.length).toList.drop ((k+1)*65):=by
  unfold Ju;rw[List.drop_append,List.drop_of_length_le (by omega),hl,List.nil_append,List.drop_drop];congr 1;omega
 rw[e1,e2];unfold Ju;rw[List.take_succ_eq_append_getElem hk,Yj,List.append_assoc];congr 2;simp[flat,List.getD_eq_getElem?_getD,hk]
theorem acg (ps:List Wr):Ju ps ps.length ps.length=flat ps:=by
 unfold Ju;rw[List.take_length,List.drop_of_length_le (by rw[Yg];exact Nat.le_refl _),List.append_nil]
theorem ZK (off:Nat): ∀(cs:List Value) (k:Nat) (A:Array Value),off+k+cs.length≤A.size→
  ((cs.zipIdx k).foldl (fun(B:Array Value) (p:Value×Nat)=>B.setIfInBounds (off+p.2) p.1) A).toList=splice A.toList (off+k) cs
 | [],_,A,_=>by simp[splice]
 |c::r,k,A,h=>by
  rw[List.zipIdx_cons,List.foldl_cons,ZK off r (k+1) _ (by simp at*;omega)]
  simp only[Array.toList_setIfInBounds]
  rw[show off+(k+1)=off+k+1 from by omega,Qb _ _ _ _ (by simp at*;omega)]
def Z65:Array Value:=(za 0::List.replicate 64 (Value.int .u8 0)).toArray
theorem YF (w:World):(zeroValue 86).run Tryz.prog w= .ok (.agg Z65) w:=by
 obtain⟨i,hi,hz0,hz1,hz2⟩:=info_parts Tryz.infoC;simp only[zeroValue,typeInfo,Sem.run_bind];simp[hi,hz0,Z65]
theorem Qj:Z65.size=65:=by simp[Z65]
theorem Yl (q:Int)(cs:List Value)(h:cs.length=64):
  List.foldl (fun(B:Array Value) (x:Value×Nat)=>B.setIfInBounds (1+x.2) x.1) (Z65.setIfInBounds 0 (za q)) cs.zipIdx=(Value.int .i64 q::cs).toArray:=by
 apply Array.ext';rw[ZK 1 cs 0 _ (by rw[Array.size_setIfInBounds,Qj];omega)];have hl:Z65.toList.length=65:=by rw[Array.length_toList,Qj]
 simp only[Array.toList_setIfInBounds];unfold splice;have e2:(Z65.toList.set 0 (Value.int .i64 q)).drop (1+0+cs.length)= []:=List.drop_of_length_le (by rw[List.length_set];omega);rw[e2,List.append_nil]
 cases hz:Z65.toList with
 |nil=>rw[hz] at hl;simp at hl
 |cons a r=>simp
def Dev (w:World) (base p:Nat) (d:Dsk):Prop:= ∃gD pv,qV d∧base≤p∧
 w.heap[p]?=some (.cells #[.slice (some (zd gD)) (d.dur.length/64) (d.dur.length/64),pv] 83 (0,0))∧
 w.ownsRow base 72 64 (.slice (some (zd gD)) (d.dur.length/64) (d.dur.length/64)) (d.dur.length/64) (d.dur.map (Value.int .u8))∧
 w.ownsRow base 86 65 pv d.pend.length (flat d.pend)
structure abu (W w w1:World)(gD gP n m:Nat):Prop where
 size:W.heap.size=w1.heap.size+3
 dur:W.heap[gD]?=some (.cells (YW n) 72 (0,0))
 pend:W.heap[gP]?=some (.cells (Jr m) 86 (0,0))
 box:W.heap[w1.heap.size+1+1]?=some (.cells #[.slice (some (zd gD)) n n,.slice (some (zd gP)) m m] 83 (0,0))
 d1:w1.heap.size≤gD
 d2:gD<w1.heap.size+2
 p1:w1.heap.size≤gP
 p2:gP<w1.heap.size+2
 chg:Chg 0 0 w W
 arg:W.heap[w.heap.size]?=w1.heap[w.heap.size]?
theorem JG (w:World){lo hi:Nat}{a:Value}{d:Dsk}(h1:ZU w lo hi a d)(hv:jg d=false):
  Calls Tryz.prog 17 #[a] w fun e w'=>e= .returned (.tuple #[.pointer none,.bool false])∧Chg 0 0 w w':=by
 have d0:=h1;obtain⟨dv,pv,rfl,v1,p1⟩:=h1;obtain⟨ao,cap,rfl,_,_,_⟩:=v1;obtain⟨po,pcap,rfl,_,_,_⟩:=p1;go_enter Tryz.func17,Tryz.ntmps17;go_wp2_with fail;refine(QM _ (d0.chg (Chg.alloc (Chg.refl 0 0 w) _) (by omega))).mono ?_;rintro e w1 ⟨rfl,hc⟩;have hch:Chg 0 0 w w1:=(Chg.alloc (Chg.refl 0 0 w) _).trans hc;rw[hv];clear hc d0;go_wp2;go_ret2;exact⟨rfl,hch⟩
theorem Z0 (w:World){lo hi:Nat}{a:Value}{d:Dsk}(h1:ZU w lo hi a d)(hv:qV d):
  Calls Tryz.prog 17 #[a] w fun e w'=> ∃p,e= .returned (.tuple #[.pointer (some (zd p)),.bool true])∧Dev w' w.heap.size p d∧Chg 0 0 w w':=by
 have d0:=h1;have hvB:=ZC hv;obtain⟨dv,pv,rfl,v1,p1⟩:=h1;obtain⟨ao,cap,rfl,hl1,⟨hcap,_⟩,hdc⟩:=v1;obtain⟨po,pcap,rfl,hl2,_,hpc⟩:=p1;obtain⟨g1,g2,g3,g4,g5⟩:=hv;obtain⟨b,off,rfl,hdc2⟩: ∃b off,ao=some ⟨b,off,none⟩∧ ∀i,i<d.dur.length→w.cell? ⟨b,off+i,none⟩=some (zb (d.dur.getD i 0)):=by
  rcases hdc with e|⟨b,off,e,_,_,h⟩
  ·rw[e] at g2;simp at g2
  ·exact⟨b,off,e,h⟩
 have HDC:Hid _:=hdc2;have HPC:Hid _:=hpc;have HG5:Hid _:=g5;clear hdc hdc2 hpc g5;go_enter Tryz.func17,Tryz.ntmps17;go_wp2_with fail;refine(QM _ (d0.chg (Chg.alloc (Chg.refl 0 0 w) _) (by omega))).mono ?_;rintro e w1 ⟨rfl,hc⟩;have hch:Chg 0 0 w w1:=(Chg.alloc (Chg.refl 0 0 w) _).trans hc;have B0:=(hc.block w.heap.size (by simp) (by omega)).trans (zh _ _);obtain⟨x0,x1,_,_⟩:=zn B0;have s1:w.heap.size<w1.heap.size:=by have:=hc.size;simp at this;omega
 rw[hvB];clear hc;have hm1:=fun w=>adM w ((d.dur.length:Int)/64) (by omega) (by omega);have hm2:=fun w=>acY w (d.pend.length:Int) (by omega) (by omega);obtain⟨N,hN⟩: ∃N,N=d.dur.length/64:=⟨_,rfl⟩;have k1:=QW w1 (.cells (YW (d.dur.length/64)) 72) (.cells (Jr d.pend.length) 86) (.cells #[.slice (some (zd w1.heap.size)) (d.dur.length/64) (d.dur.length/64),.slice (some (zd (w1.heap.size+1))) d.pend.length d.pend.length] 83)
 have k2:=QW w1 (.cells (Jr d.pend.length) 86) (.cells (YW (d.dur.length/64)) 72) (.cells #[.slice (some (zd (w1.heap.size+1))) (d.dur.length/64) (d.dur.length/64),.slice (some (zd w1.heap.size)) d.pend.length d.pend.length] 83);have key1:Hid (∃gD gP,abu ((((w1.alloc (.cells (YW (d.dur.length/64)) 72)).alloc (.cells (Jr d.pend.length) 86)).alloc (.cells #[.slice (some (zd w1.heap.size)) (d.dur.length/64) (d.dur.length/64),.slice (some (zd (w1.heap.size+1))) d.pend.length d.pend.length] 83)).drew) w w1 gD gP (d.dur.length/64) d.pend.length):=
  ⟨w1.heap.size,w1.heap.size+1,k1.1,k1.2.1,k1.2.2.1,k1.2.2.2,by omega,by omega,by omega,by omega,(((hch.alloc _).alloc _).alloc _).drew,by have:=((((Chg.refl 0 0 w1).alloc (.cells (YW (d.dur.length/64)) 72)).alloc (.cells (Jr d.pend.length) 86)).alloc (.cells #[.slice (some (zd w1.heap.size)) (d.dur.length/64) (d.dur.length/64),.slice (some (zd (w1.heap.size+1))) d.pend.length d.pend.length] 83)).block w.heap.size s1 (by omega);exact this⟩
 have key2:Hid (∃gD gP,abu ((((w1.alloc (.cells (Jr d.pend.length) 86)).alloc (.cells (YW (d.dur.length/64)) 72)).alloc (.cells #[.slice (some (zd (w1.heap.size+1))) (d.dur.length/64) (d.dur.length/64),.slice (some (zd w1.heap.size)) d.pend.length d.pend.length] 83)).drew) w w1 gD gP (d.dur.length/64) d.pend.length):=
  ⟨w1.heap.size+1,w1.heap.size,k2.1,k2.2.2.1,k2.2.1,k2.2.2.2,by omega,by omega,by omega,by omega,(((hch.alloc _).alloc _).alloc _).drew,by have:=((((Chg.refl 0 0 w1).alloc (.cells (Jr d.pend.length) 86)).alloc (.cells (YW (d.dur.length/64)) 72)).alloc (.cells #[.slice (some (zd (w1.heap.size+1))) (d.dur.length/64) (d.dur.length/64),.slice (some (zd w1.heap.size)) d.pend.length d.pend.length] 83)).block w.heap.size s1 (by omega);exact this⟩
 clear k1 k2;go_wp2;go_region
 all_goals go_wp2_with fail
 generalize (((w1.alloc (.cells (YW (d.dur.length/64)) 72)).alloc (.cells (Jr d.pend.length) 86)).alloc (.cells #[.slice (some (zd w1.heap.size)) (d.dur.length/64) (d.dur.length/64),.slice (some (zd (w1.heap.size+1))) d.pend.length d.pend.length] 83)).drew=W5 at key1⊢;have key:=key1.out;clear key1 key2;rotate_left;generalize (((w1.alloc (.cells (Jr d.pend.length) 86)).alloc (.cells (YW (d.dur.length/64)) 72)).alloc (.cells #[.slice (some (zd (w1.heap.size+1))) (d.dur.length/64) (d.dur.length/64),.slice (some (zd w1.heap.size)) d.pend.length d.pend.length] 83)).drew=W5 at key2⊢
 have key:=key2.out;clear key1 key2;rotate_left
 all_goals
  obtain⟨gD,gP,K⟩:=key
  go_loopw [27] (fun i wr=> ∃k:Nat,k≤d.dur.length/64∧i=za k∧Chg gD (gD+1) W5 wr∧wr.heap[gD]?=some (.cells (Zw d.dur (d.dur.length/64) k).toArray 72 (0,0))) (fun i _=>d.dur.length/64-(intOf i).toNat)
  case atStart=>exact⟨0,Nat.zero_le _,rfl,Chg.refl _ _ _,by rw[K.dur,adl]⟩
  case round=>
   obtain⟨k,hk,rfl,hcw,hgD⟩:=hrel;have b1:=(hcw.block (w1.heap.size+1+1) (by have:=K.size;omega) (by have:=K.d1;have:=K.d2;omega)).trans K.box;have b2:=(hcw.block w.heap.size (by have:=K.size;omega) (by have:=K.d1;omega)).trans (K.arg.trans B0);obtain⟨y0,y1,_,_⟩:=zn b1;obtain⟨z0,z1,_,_⟩:=zn b2;clear b1 b2;by_cases hlt:k<d.dur.length/64
   ·have e1:(k:Int)<(d.dur.length:Int)/64:=by omega
    have e2:(0:Int)≤(k:Int)*64:=by omega
    have e3:(k:Int)*64≤(d.dur.length:Int):=by omega
    have e4:(k:Int)*64≤(cap:Int):=by omega
    have e5: ¬cap=k*64:=by omega
    have e6:IntKind.i64.wrap ((k:Int)*64)=(k:Int)*64:=by rw[IntKind.wrap_i64];omega
    have e7:((k:Int)*64).toNat=k*64:=by omega
    obtain⟨cs,hcs⟩: ∃cs,cs=((d.dur.drop (k*64)).take 64).map (Value.int .u8):=⟨_,rfl⟩;have hN64:d.dur.length=d.dur.length/64*64:=by omega
    have L1:cs.length=64:=by rw[hcs];simp;omega
    have L2: ∀v∈cs,v.oneCell'=true:=by rw[hcs];exact ints_oneCell _ _
    have hWw:=(K.chg.widen (by omega) (by omega)).trans hcw;have L3: ∀j v,cs[j]?=some v→wr.cell? ((⟨b,off+k*64,none⟩:Addr).add j)=some v:=by
     intro j v hj;have hj64:j<64:=by have:=(List.getElem?_eq_some_iff.1 hj).1;omega
     have hc:=HDC.out (k*64+j) (by omega);have hbl:=zF hc;rw[Addr.add_mid,Nat.add_assoc,hWw.cell hc (by have:=K.d1;omega),←hj,hcs];rw[List.getElem?_map,List.getElem?_take,if_pos hj64,List.getElem?_drop];simp only[List.getD_eq_getElem?_getD];rw[List.getElem?_eq_getElem (show k*64+j<d.dur.length by omega)];rfl
    have L4:=Yh d.dur (d.dur.length/64) k hN64 hk;have L5:=Yi d.dur (d.dur.length/64) k hN64 hlt;rw[←hcs] at L5;have HL5:Hid _:=L5;have HL4:Hid _:=L4;have HL3:Hid _:=L3;have HL2:Hid _:=L2;have HL1:Hid _:=L1;have HgD:Hid _:=hgD;clear L1 L2 L3 L4 L5 hcs hN64 hgD hWw;clear HDC HPC HG5 x0 x1 hm1 hm2 d0 B0;go_wp2;go_region_held3 (fun w'=>w'.cell? ⟨w1.heap.size+1+1,0,none⟩=some (.slice (some (zd gD)) (d.dur.length/64) (d.dur.length/64))∧w'.cell? (zd w.heap.size)=some (.slice (some ⟨b,off,none⟩) d.dur.length cap)) (first|go_keep|exact⟨C2.cell (w:=wr.drew) y0 (by have:=K.d1;have:=K.d2;omega),C2.cell (w:=wr.drew) z0 (by have:=K.d1;omega)⟩)
     ((refine JJ rfl (.tmp 36) (.tmp 41) 22 22 rfl 5 Tryz.underlying22 (by kernel_rfl) gD (k*64) 64 64 ⟨b,off+k*64,none⟩ _ _ rfl rfl _ _ HgD.out cs (by rw[HL1.out];show 64=min _ 64;omega) HL3.out (by rw[HL1.out,HL4.out];omega) HL2.out ?_;intro w2 H2 C2))
    have R1:=hcw.drew.trans C2;have R2:Hid (w2.heap[gD]?=some (.cells (Zw d.dur (d.dur.length/64) (k+1)).toArray 72 (0,0))):=by
     have:=H2.out;rw[HL5.out] at this;exact this
    clear C2 H2 HgD HL1 HL2 HL3 HL4 HL5 hcw;go_wp2;go_roundw
    case rel=>exact⟨k+1,by omega,by go_num,R1,R2.out⟩
    case measure=>simp[intOf];omega
   ·obtain rfl:k=d.dur.length/64:=by omega
    have F1:Hid (wr.heap[gD]?=some (.cells (d.dur.map (Value.int .u8)).toArray 72 (0,0))):=by
     have:=hgD;rw[U6 _ _ (by omega)] at this;exact this
    have hne:gP≠gD:=by
     intro e;have h1:=K.dur;have h2:=K.pend;rw[e,h1] at h2;simp only[Option.some.injEq,Obj.cells.injEq] at h2;exact absurd h2.2.1 (by decide)
    have F2:wr.heap[gP]?=some (.cells (Jr d.pend.length) 86 (0,0)):=(hcw.block gP (by have:=K.size;have:=K.p2;omega) (by omega)).trans K.pend;have F3:=(hcw.block (w1.heap.size+1+1) (by have:=K.size;omega) (by have:=K.d1;have:=K.d2;omega)).trans K.box;have F4:=(hcw.block w.heap.size (by have:=K.size;omega) (by have:=K.d1;omega)).trans (K.arg.trans B0);have F5:Chg 0 0 w wr:=K.chg.step hcw (Or.inr (Or.inl (by have:=K.d1;omega)))
    have F6:=hcw.size;rw[K.size] at F6;have hF2:Hid _:=F2;have d1:=K.d1;have d2:=K.d2;have p1:=K.p1;have p2:=K.p2;clear hgD hcw K HDC F2 hm1 hm2 B0 x0 x1 d0 hk hlt;obtain⟨W6,rfl⟩: ∃W6,W6=wr:=⟨_,rfl⟩;go_wp2;go_loopw [47] (fun i w6=> ∃k:Nat,k≤d.pend.length∧i=za k∧Chg gP (gP+1) W6 w6∧w6.heap[gP]?=some (.cells (Ju d.pend d.pend.length k).toArray 86 (0,0))) (fun i _=>d.pend.length-(intOf i).toNat)
    case atStart=>exact⟨0,Nat.zero_le _,rfl,Chg.refl _ _ _,by rw[aaV];exact hF2.out⟩
    case round=>
     obtain⟨k,hk,rfl,hcw,hgP⟩:=hrel;have b1:=(hcw.block (w1.heap.size+1+1) (by omega) (by omega)).trans F3;have b2:=(hcw.block w.heap.size (by omega) (by omega)).trans F4;have sz:=hcw.size;obtain⟨y0,y1,_,_⟩:=zn b1;obtain⟨z0,z1,_,_⟩:=zn b2;clear b1 b2;by_cases hlt:k<d.pend.length
     ·obtain⟨pb,poff,rfl,hcells⟩: ∃b off,po=some ⟨b,off,none⟩∧ ∀i,i<d.pend.length→ ∃dv,w.cell? ⟨b,off+i*2,none⟩=some (za (d.pend.getD i (0,[])).1)∧w.cell? ⟨b,off+i*2+1,none⟩=some dv∧zr w lo hi .u8 dv (d.pend.getD i (0,[])).2:=by
       rcases HPC.out with e|⟨b,off,e,_,_,h⟩
       ·rw[e] at hlt;simp at hlt
       ·exact⟨b,off,e,h⟩
      obtain⟨dv,c1,c2,vw⟩:=hcells k hlt;have hgood:=HG5.out k hlt;have hWw:=(F5.widen (by omega) (by omega)).trans hcw;have lb:=zF c1;have c1:=hWw.cell c1 (by omega);have c2:=hWw.cell c2 (by omega);have HS:=Ep d.pend k HG5.out hlt;have HL:=Eo d.pend k HG5.out hk;clear hcells;generalize d.pend.getD k (0,[])=pr at*;obtain⟨q,xs⟩:=pr;obtain⟨_,_,hx64⟩:=hgood;obtain⟨bo,bcap,rfl,_,⟨hbc,_⟩,hbx⟩:=vw;simp only at c1 c2 hx64 hbc hbx
      obtain⟨xb,xo,rfl,hxc⟩: ∃xb xo,bo=some ⟨xb,xo,none⟩∧ ∀i,i<xs.length→w.cell? ⟨xb,xo+i,none⟩=some (zb (xs.getD i 0)):=by
       rcases hbx with e|⟨x,o,e,_,_,h⟩
       ·rw[e] at hx64;simp at hx64
       ·exact⟨x,o,e,h⟩
      clear hbx;rw[hx64] at c2 hbc;obtain⟨cs,hcs⟩: ∃cs,cs=xs.map (Value.int .u8):=⟨_,rfl⟩;have HCW:Hid (jE (q,xs)=za q::cs):=by rw[hcs];rfl
      have L1:cs.length=64:=by rw[hcs];simpa using hx64
      have L2: ∀v∈cs,v.oneCell'=true:=by rw[hcs];exact ints_oneCell _ _
      have R0:wr.rangeAt xb xo cs:=by
       intro j v hj;have hj64:j<64:=by have:=(List.getElem?_eq_some_iff.1 hj).1;omega
       have hc:=hxc j (by omega);have hbl:=zF hc;rw[hWw.cell hc (by omega),←hj,hcs,List.getElem?_map];simp only[List.getD_eq_getElem?_getD];rw[List.getElem?_eq_getElem (show j<xs.length by omega)];rfl
      have lx:xb<wr.heap.size:=by
       have:=zF (hxc 0 (by omega));have:=F5.size;omega
      have T0:wr.there gP (k*65) 65:=by
       intro j hj;have e:(k+1)*65≤d.pend.length*65:=Nat.mul_le_mul_right _ hlt;constructor
       ·rw[World.cell?,hgP];simp;rw[HL];omega
       ·rw[World.frozen?,hgP];simp
      have hgPlt:gP<wr.heap.size:=by omega
      have HHS:Hid _:=HS;have HHL:Hid _:=HL;have HgP:Hid _:=hgP;have u1:=Tryz.underlying72;have i1:(Tryz.prog.info? 72).map (·.size)=some cs.length:=by rw[L1];kernel_rfl
      have i2:(Tryz.prog.info? 86).map (·.size)=some 65:=by kernel_rfl
      have hik:(k:Int)<(d.pend.length:Int):=by omega
      have hxne:xb≠gP:=by have:=zF (hxc 0 (by omega));omega
      clear hcs HS HL hgP hxc hWw hx64;have B7:=zh wr (.cells #[za q,.slice (some ⟨xb,xo,none⟩) 64 bcap] 84);obtain⟨m0,m1,_,_⟩:=zn B7;have m2:(wr.alloc (.cells #[za q,.slice (some ⟨xb,xo,none⟩) 64 bcap] 84)).cell? ⟨w1.heap.size+1+1,1,none⟩=some (.slice (some (zd gP)) d.pend.length d.pend.length):=(Chg.alloc (Chg.refl 0 0 wr) _).cell y1 (by omega);have R7:=World.rangeAt_alloc R0 (.cells #[za q,.slice (some ⟨xb,xo,none⟩) 64 bcap] 84)
      have T7:=World.there_alloc T0 (.cells #[za q,.slice (some ⟨xb,xo,none⟩) 64 bcap] 84);have HgP7:Hid ((wr.alloc (.cells #[za q,.slice (some ⟨xb,xo,none⟩) 64 bcap] 84)).heap[gP]?=some (.cells (Ju d.pend d.pend.length k).toArray 86 (0,0))):=(Below.heap_alloc _ _ _ hgPlt).trans HgP.out;have C7:Chg gP (gP+1) W6 (wr.alloc (.cells #[za q,.slice (some ⟨xb,xo,none⟩) 64 bcap] 84)):=hcw.alloc _;clear B7 R0 T0 HgP hcw y0 y1 z0 z1
      go_wp2;generalize wr.alloc (.cells #[za q,.slice (some ⟨xb,xo,none⟩) 64 bcap] 84)=W7 at*;have hnb:wr.heap.size≠gP:=by omega
      have har:=fun w=>Jz w ⟨xb,xo,none⟩ bcap;have hzc:=YF;have hz0: ¬Z65= #[]:=by intro e;have:=Qj;rw[e] at this;simp at this
      have hz1:=Qj;have hfo:=Yl q cs L1;obtain⟨full,hfull⟩: ∃full,full=Value.int .i64 q::cs:=⟨_,rfl⟩;rw[←hfull] at hfo;have L4:full.length=65:=by rw[hfull,List.length_cons,L1]
      have i3:(Tryz.prog.info? 86).map (·.size)=some full.length:=by rw[L4];kernel_rfl
      have u3:=Tryz.underlying86;have L3: ∀v∈full,v.oneCell'=true:=by
       intro v hv;rw[hfull] at hv;rcases List.mem_cons.1 hv with rfl|hv
       ·rfl
       ·exact L2 v hv
      have Hfull:Hid _:=hfull;have hst:(storeCells ⟨gP,k*65,none⟩ full).run Tryz.prog W7.drew= .ok () (W7.drew.setCells gP (k*65) full):=by
       have:=run_storeCells_cells (P:=Tryz.prog) gP (k*65) full 0 W7.drew (fun j hj=>by simpa using (T7 j (by omega)).1) (fun j hj=>by simpa using (T7 j (by omega)).2) L3;simpa using this
      clear hfull;have hnP:w1.heap.size+1+1≠gP:=by omega
      go_region_held3 (fun w'=>w'.cell? ⟨w1.heap.size+1+1,1,none⟩=some (.slice (some (zd gP)) d.pend.length d.pend.length)∧w'.cell? (zd wr.heap.size)=some (za q)∧w'.cell? ⟨wr.heap.size,1,none⟩=some (.slice (some ⟨xb,xo,none⟩) 64 bcap)∧w'.rangeAt xb xo cs∧w'.there gP (k*65) 65)
       (first|exact⟨m2,m0,m1,R7,T7⟩|exact⟨(Chg.setCells gP _ _ W7.drew).cell m2 (by omega),(Chg.setCells gP _ _ W7.drew).cell m0 (by omega),(Chg.setCells gP _ _ W7.drew).cell m1 (by omega),World.rangeAt_setCells_apart (w:=W7.drew) R7 _ _ _ (Or.inl hxne),World.there_setCells (w:=W7.drew) T7 _ _ _⟩) (fail)
      have R1:Hid (Chg gP (gP+1) W6 (W7.drew.setCells gP (k*65) full)):=C7.drew.trans (Chg.setCells gP _ _ _);have R2:Hid ((W7.drew.setCells gP (k*65) full).heap[gP]?=some (.cells (Ju d.pend d.pend.length (k+1)).toArray 86 (0,0))):=by
       have e:(k+1)*65≤d.pend.length*65:=Nat.mul_le_mul_right _ hlt;have:=jb gP 86 full (k*65) W7.drew _ HgP7.out (by rw[L4,HHL.out];omega);rw[Hfull.out,←HCW.out,HHS.out] at this;rw[Hfull.out,←HCW.out];exact this
      clear hst hfo hzc hz0 hz1 har u1 i1 i2 i3 u3 L1 L2 L3 L4 R7 T7 m0 m1 m2 C7 HgP7 HCW HHS HHL Hfull c1 c2;go_wp2;go_roundw
      case rel=>
       refine⟨_,_,_,_,_,_,_,_,_,_,_,_,_,_,_,_,_,_,_,_,_,⟨k+1,by omega,?_,R1.out,R2.out⟩,rfl⟩;go_num
      case measure=>simp[intOf];omega
     ·obtain rfl:k=d.pend.length:=by omega
      have G1:=(hcw.block gD (by omega) (by omega)).trans F1.out;have G2:=(hcw.block (w1.heap.size+1+1) (by omega) (by omega)).trans F3;have G3:=hgP;rw[acg] at G3;have HV:Hid (Dev wr w.heap.size (w1.heap.size+1+1) d):=by
       have hV:qV d:=⟨g1,g2,g3,g4,HG5.out⟩;refine⟨gD,_,hV,by omega,G2,⟨by rw[List.length_map];omega,Or.inr ⟨gD,_,_,rfl,by omega,G1,Nat.le_refl _,by unfold maxLen;omega,by simp;omega,?_⟩⟩,⟨?_,Or.inr ⟨gP,_,_,rfl,by omega,G3,Nat.le_refl _,by unfold maxLen;omega,?_,?_⟩⟩⟩
       ·rw[List.take_of_length_le (by simp;omega)]
       ·exact j2 _ _ HG5.out
       ·rw[List.size_toArray];exact j2 _ _ HG5.out
       ·exact List.take_of_length_le (by rw[j2 _ _ HG5.out];exact Nat.le_refl _)
      have HC:Hid _:=F5.step hcw (Or.inr (Or.inl (by omega)));clear G1 G2 G3 hgP hcw F1 F3 F4 F5 y0 y1 z0 z1 HG5 HPC;go_wp2;go_ret2;exact⟨_,rfl,HV.out,HC.out⟩
theorem JI {P:Program}{fn:Func}{p:Tmp}{ty:TypeId}{w:World}{tmps:Array Value}{a:Addr}{v:Value}(h:fn.results= #[.cell p ty])(ht:tmps.getD p undef= .pointer (some a))(hl:(loadVar ty a).run P w= .ok v w):
  (results fn tmps).run P w= .ok v w:=by
 have ht':tmps[p]?.getD undef= .pointer (some a):=by simpa using ht
 simp only[results,h];simp[asAddr,ht',hl]
theorem Dev.rows {w:World}{base p:Nat}{d:Dsk}(h:Dev w base p d): ∃gD po m cap,qV d∧base≤p∧
  w.heap[p]?=some (.cells #[.slice (some (zd gD)) (d.dur.length/64) (d.dur.length/64),.slice po m cap] 83 (0,0))∧base≤gD∧m=d.pend.length∧
  (∀j,j<d.dur.length→w.cell? ⟨gD,j,none⟩=some (zb (d.dur.getD j 0)))∧
  (0<d.pend.length→ ∃gP,po=some (zd gP)∧base≤gP∧ ∀j v,(flat d.pend)[j]?=some v→w.cell? ⟨gP,j,none⟩=some v):=by
 obtain⟨gD,pv,hv,hp,hb,hd,hpd⟩:=h;have hd':=hd;have hpd':=hpd;have hc: ∀j,j<d.dur.length→w.cell? ⟨gD,j,none⟩=some (zb (d.dur.getD j 0)):=by
  intro j hj;have h1:=hv.1;rw[World.ownsRow.cellAt hd j (by omega)];simp[List.getD_eq_getElem?_getD,hj]
 have hg:base≤gD:=(World.ownsRow.lt hd gD rfl).1;rcases hpd.2 with⟨e,h0⟩|⟨gP,cap,cur,e,hgP,_⟩
 ·subst e;exact⟨gD,_,_,_,hv,hp,hb,hg,h0.symm,hc,fun h=>by omega⟩
 ·subst e;refine⟨gD,_,_,_,hv,hp,hb,hg,rfl,hc,fun h=>⟨gP,rfl,hgP,fun j v hj=>?_⟩⟩;have hl:=hpd'.1;rw[World.ownsRow.cellAt hpd' j (by rw[←hl];exact(List.getElem?_eq_some_iff.1 hj).1)];exact hj
theorem Jo (w:World)(c:Array Value)(t:TypeId)(n:Nat)(hn:c.size=n):(w.alloc (.cells c t)).there w.heap.size 0 n:=by
 intro j hj;have hh:=zh w (.cells c t);constructor
 ·rw[World.cell?,hh];simp;omega
 ·rw[World.frozen?,hh];simp
theorem Eu {a b:Bool}(h:a=b):Ending.returned (.bool a)= .returned (.bool b):=by rw[h]
theorem YY (w:World){base p:Nat}{d:Dsk}(a:Int)(h:Dev w base p d)(h1:0≤a)(h2:a<((d.dur.length/64:Nat):Int)):
  Calls Tryz.prog 65 #[.pointer (some (zd p)),za a] w fun e w'=>e= .returned (.bool true)∧w'=w:=by
 obtain⟨gD,po,m,cap,hv,hp,hb,_,_,_,_⟩:=h.rows;obtain⟨c0,_,_,_⟩:=zn hb;have hn:=hv.2.2.1;clear hb h hv;go_enter Tryz.func65,Tryz.ntmps65;go_wp2;go_ret;exact⟨Eu (by simp;omega),rfl⟩
theorem adI (w:World){base p:Nat}{d:Dsk}(a:Int)(h:Dev w base p d)(h0:a<0∨((d.dur.length/64:Nat):Int)≤a):
  Calls Tryz.prog 65 #[.pointer (some (zd p)),za a] w fun e w'=>e= .returned (.bool false)∧w'=w:=by
 obtain⟨gD,po,m,cap,hv,hp,hb,_,_,_,_⟩:=h.rows;obtain⟨c0,_,_,_⟩:=zn hb;have hn:=hv.2.2.1;clear hb h hv;by_cases h1:0≤a
 ·have h2:((d.dur.length/64:Nat):Int)≤a:=by omega
  go_enter Tryz.func65,Tryz.ntmps65;go_wp2;go_ret;exact⟨Eu (by simp;omega),rfl⟩
 ·have h1':decide (0≤a)=false:=by simpa using h1
  go_enter Tryz.func65,Tryz.ntmps65;go_wp2;go_ret;exact⟨rfl,rfl⟩
theorem Qw {n:Nat}(ps:List Wr)(h: ∀i,i<ps.length→Good n (ps.getD i (0,[])))(k j:Nat)(hk:k<ps.length)(hj:j<65):(flat ps)[k*65+j]?=(jE (ps.getD k (0,[])))[j]?:=by
 have e:ps=ps.take k++(ps[k]::ps.drop (k+1)):=by simp
 have hl:(flat (ps.take k)).length=k*65:=by rw[j2 n _ (XJ h),List.length_take,Nat.min_eq_left (by omega)]
 have e1:flat ps=flat (ps.take k)++(jE ps[k]++flat (ps.drop (k+1))):=by
  have:flat ps=flat (ps.take k++(ps[k]::ps.drop (k+1))):=by rw[←e]
  rw[this,Yj];rfl
 have e2:ps.getD k (0,[])=ps[k]:=by simp[List.getD_eq_getElem?_getD,hk]
 have hw:(jE ps[k]).length=65:=by
  have:=(h k hk).2.2;rw[e2] at this;simp only[jE,List.length_cons,List.length_map,this]
 rw[e1,e2,List.getElem?_append_right (by omega),hl,Nat.add_sub_cancel_left,List.getElem?_append_left (by omega)]
theorem Dev.lt {w:World}{base p:Nat}{d:Dsk}(h:Dev w base p d):p<w.heap.size:=by
 obtain⟨_,_,_,_,hb,_⟩:=h;exact(gLt hb)
def stl (K:Nat→Bool) (ps:List Wr) (dur:List Int):Nat→List Int
 |0=>dur
 |k+1=>if K k=true then splice (stl K ps dur k) ((ps.getD k (0,[])).1.toNat*64) (ps.getD k (0,[])).2 else stl K ps dur k
theorem Zs (K:Nat→Bool)(d:Dsk)(hv:qV d): ∀k,k≤d.pend.length→(stl K d.pend d.dur k).length=d.dur.length
 |0,_=>rfl
 |k+1,hk=>by
  have ih:=Zs K d hv k (by omega)
  unfold stl
  split
  ·obtain⟨h1,h2,h3⟩:=hv.2.2.2.2 k (by omega)
   rw[length_splice _ _ _ (by rw[ih,h3];have:=hv.1;omega),ih]
  ·exact ih
theorem Nh (f:Int→Value)(xs ys:List Int)(o:Nat):(splice xs o ys).map f=splice (xs.map f) o (ys.map f):=by
 simp[splice,List.map_append,List.map_take,List.map_drop]
theorem acw (K:Nat→Bool)(ps:List Wr)(dur:List Int)(k:Nat)(h:K k=true):
  splice ((stl K ps dur k).map (Value.int .u8)) ((ps.getD k (0,[])).1.toNat*64) ((ps.getD k (0,[])).2.map (Value.int .u8))=(stl K ps dur (k+1)).map (Value.int .u8):=by
 rw[←Nh];conv=>rhs;unfold stl;rw[if_pos h]
def setD (K:Nat→Bool) (d:Dsk):Dsk:=⟨stl K d.pend d.dur d.pend.length,[]⟩
theorem J2 (K:Nat→Bool){d:Dsk}(hv:qV d):qV (setD K d):=by
 have hl:=Zs K d hv d.pend.length (Nat.le_refl _);obtain⟨h1,h2,h3,_,_⟩:=hv;refine⟨?_,?_,?_,by simp[setD],by simp[setD]⟩<;>simp only[setD]<;>rw[hl]<;>assumption
def JW (d:Dsk):Dsk:=if jg d=true then setD (fun _=>true) d else Dsk.none
theorem qK.lower {w:World}{lo lo' hi:Nat}{eW eB:TypeId}{v:Value}{d:Dsk}(h:qK w lo hi eW eB v d)(hl:lo'≤lo):qK w lo' hi eW eB v d:=by
 obtain⟨dv,pv,cells,dvs,h⟩:=h;have hp:Zj w lo' eW eB pv d.pend cells dvs:=by
  refine⟨?_,h.pend.at0,h.pend.at1,fun i hi=>(h.pend.data i hi).base (fun g hg=>Nat.le_trans hl ((h.pend.data i hi).lt g hg).1),h.pend.apart⟩;obtain⟨h1,h2⟩:=h.pend.row;refine⟨h1,?_⟩;rcases h2 with h2|⟨g,cap,cur,hv,hg,r⟩
  ·exact Or.inl h2
  ·exact Or.inr ⟨g,cap,cur,hv,by omega,r⟩
 exact⟨dv,pv,cells,dvs,h.agg,h.dur.base (fun g hg=>Nat.le_trans hl (h.dur.lt g hg).1),hp,h.apart,h.hiD,h.hiP,h.hiX⟩
theorem filled {w:World}{c:Array Value}{t:TypeId}{full:List Value}(hs:c.size=full.length):
  ((w.alloc (.cells c t)).setCells w.heap.size 0 full).heap[w.heap.size]?=some (.cells full.toArray t (0,0))∧Chg 0 0 w ((w.alloc (.cells c t)).setCells w.heap.size 0 full):=by
 refine⟨?_,(Chg.alloc (Chg.refl 0 0 w) _).step (Chg.setCells w.heap.size full 0 _) (Or.inr (Or.inl (Nat.le_refl _)))⟩;have hcl:c.toList.length=full.length:=hs;have h0:=zh w (.cells c.toList.toArray t);have:=jb w.heap.size t full 0 (w.alloc (.cells c.toList.toArray t)) c.toList h0 (by omega);have e:splice c.toList 0 full=full:=by
  unfold splice;rw[List.take_zero,List.nil_append,Nat.zero_add,List.drop_of_length_le (by omega),List.append_nil]
 rw[e] at this;simpa using this
theorem Dev.pend_ne {w:World}{base p:Nat}{d:Dsk}(h:Dev w base p d): ∃gD po cap,qV d∧base≤p∧base≤gD∧
  w.heap[p]?=some (.cells #[.slice (some (zd gD)) (d.dur.length/64) (d.dur.length/64),.slice po d.pend.length cap] 83 (0,0))∧
  w.heap[gD]?=some (.cells (d.dur.map (Value.int .u8)).toArray 72 (0,0))∧
  (∀k,k<d.pend.length→ ∃gP,po=some (zd gP)∧gP≠gD∧gP<w.heap.size∧w.rangeAt gP (k*65) (jE (d.pend.getD k (0,[])))):=by
 obtain⟨gD,pv,hv,hp,hb,hd,hpd⟩:=h;have hpd':=hpd;have hD: ∃cur,w.heap[gD]?=some (.cells cur 72 (0,0))∧cur.toList=d.dur.map (Value.int .u8):=by
  rcases hd.2 with⟨e,_⟩|⟨g,cap,cur,e,_,hh,_,_,hs,ht⟩
  ·cases e
  ·simp only[Value.slice.injEq,Option.some.injEq,Addr.mk.injEq,and_true] at e;obtain⟨rfl,_,rfl⟩:=e;refine⟨cur,hh,?_⟩;rw[List.take_of_length_le (by rw[Array.length_toList,hs];exact Nat.le_refl _)] at ht;exact ht
 obtain⟨cur,hcur,hcl⟩:=hD;have hG:w.heap[gD]?=some (.cells (d.dur.map (Value.int .u8)).toArray 72 (0,0)):=by rw[←hcl];simpa using hcur
 have hg:base≤gD:=(World.ownsRow.lt hd gD rfl).1;rcases hpd.2 with⟨e,h0⟩|⟨gP,cap,cur',e,hgP,hh,_⟩
 ·subst e;refine⟨gD,none,0,hv,hp,hg,by rw[h0];exact hb,hG,fun k hk=>by omega⟩
 ·subst e;refine⟨gD,_,cap,hv,hp,hg,hb,hG,fun k hk=>⟨gP,rfl,?_,(gLt hh),?_⟩⟩
  ·intro e;rw[e,hcur] at hh;simp only[Option.some.injEq,Obj.cells.injEq] at hh;exact absurd hh.2.1 (by decide)
  ·intro j v hj;have hw:(jE (d.pend.getD k (0,[]))).length=65:=by
    have:=(hv.2.2.2.2 k hk).2.2;simp only[jE,List.length_cons,List.length_map,this]
   have hj65:j<65:=by have:=(List.getElem?_eq_some_iff.1 hj).1;omega
   have hf:=Qw d.pend hv.2.2.2.2 k j hk hj65;have hm:(k+1)*65≤d.pend.length*65:=Nat.mul_le_mul_right _ hk;rw[World.ownsRow.cellAt hpd' (k*65+j) (by omega),hf];exact hj
theorem UK (w:World){base p:Nat}{d:Dsk}(h:Dev w base p d):
  Calls Tryz.prog 35 #[.pointer (some (zd p)),.func (.func 36) #[] #[]] w fun e w'=>e= .returned (.tuple #[])∧Dev w' base p (setD (fun _=>true) d)∧Chg base w.heap.size w w':=by
 obtain⟨gD,po,cap,hv,hp,hgD,hbox,hdur,hpend⟩:=h.pend_ne;have hpz:=(gLt hbox);have hgz:=(gLt hdur);have hpg:p≠gD:=by
  intro e;rw[e,hdur] at hbox;simp only[Option.some.injEq,Obj.cells.injEq] at hbox;exact absurd hbox.2.1 (by decide)
 have hm:=hv.2.2.2.1;have hn:=hv.2.2.1;obtain⟨b0,b1,_,_⟩:=zn hbox;have HP:Hid _:=hpend;have HV:Hid (qV d):=hv;have Hdur:Hid _:=hdur;have Hbox:Hid _:=hbox;clear hpend hdur hbox h hv;go_enter Tryz.func35,Tryz.ntmps35;go_wp2;go_loopw [11] (fun i wr=> ∃k:Nat,k≤d.pend.length∧i=za k∧Chg gD (gD+1) w wr∧wr.heap[gD]?=some (.cells ((stl (fun _=>true) d.pend d.dur k).map (Value.int .u8)).toArray 72 (0,0))) (fun i _=>d.pend.length-(intOf i).toNat)
 case atStart=>exact⟨0,Nat.zero_le _,rfl,Chg.refl _ _ _,Hdur.out⟩
 case round=>
  obtain⟨k,hk,rfl,hcw,hrow⟩:=hrel;have sz:=hcw.size;have y0:=hcw.cell b0 (by omega);have y1:=hcw.cell b1 (by omega);have Hrow:Hid _:=hrow;clear hrow;by_cases hlt:k<d.pend.length
  ·obtain⟨gP,rfl,hne,hgPz,hrg⟩:=HP.out k hlt;obtain⟨hq0,hq1,hx64⟩:=HV.out.2.2.2.2 k hlt;have hstep:=acw (fun _=>true) d.pend d.dur k rfl;have hlenk:=Zs (fun _=>true) d HV.out k hk;generalize d.pend.getD k (0,[])=pr at*;obtain⟨q,xs⟩:=pr;simp only at hq0 hq1 hx64 hstep;obtain⟨qn,rfl⟩:=Int.eq_ofNat_of_zero_le hq0;rw[Int.toNat_natCast] at hstep;obtain⟨cs,hcs⟩: ∃cs,cs=xs.map (Value.int .u8):=⟨_,rfl⟩;rw[←hcs] at hstep
   obtain⟨full,hfull⟩: ∃full,full=jE ((qn:Int),xs):=⟨_,rfl⟩;rw[←hfull] at hrg;have hf2:full=Value.int .i64 qn::cs:=by rw[hfull,hcs];rfl
   have L1:cs.length=64:=by rw[hcs];simpa using hx64
   have L2: ∀v∈cs,v.oneCell'=true:=by rw[hcs];exact ints_oneCell _ _
   have L3:full.length=65:=by rw[hf2,List.length_cons,L1]
   have L4: ∀v∈full,v.oneCell'=true:=by
    intro v hv;rw[hf2] at hv;rcases List.mem_cons.1 hv with rfl|hv
    ·rfl
    ·exact L2 v hv
   have R0:wr.rangeAt gP (k*65) full:=fun j v hj=>hcw.cell (hrg j v hj) (by omega);have HR0:Hid _:=R0;have HL1:Hid _:=L1;have HL2:Hid _:=L2;have HL3:Hid _:=L3;have HL4:Hid _:=L4;have Hf2:Hid _:=hf2;have Hstep:Hid _:=hstep;have Hlk:Hid _:=hlenk;have Hsz:Hid (full.toArray.size=65):=by show _=_;simpa using L3
   have u87:=Tryz.underlying86;have i87:Hid ((Tryz.prog.info? 86).map (·.size)=some full.toArray.size):=by show _=_;rw[Hsz.out];kernel_rfl
   have i87l:Hid ((Tryz.prog.info? 86).map (·.size)=some full.length):=by show _=_;rw[L3];kernel_rfl
   have hmod:=HV.out.1;clear hrg hcs hfull hf2 L1 L2 L3 L4 R0 hstep hlenk hx64;have hik:(k:Int)<(d.pend.length:Int):=by omega
   go_wp2_with (first
    |(refine wpList_load_mid rfl 86 (.tmp 14) rfl gP (k*65) rfl full _ HR0.out u87 rfl i87l.out ?_)
    |(refine wpList_store_mid rfl 86 (.tmp 5) (.tmp 15) rfl wr.heap.size 0 full.toArray rfl rfl (by rw[Hsz.out];exact Jo wr _ _ 65 rfl) i87.out (all_oneCell_toArray HL4.out) ?_)
    |go_in)
   obtain⟨F1,F2⟩:=filled (w:=wr) (c:=Tryz.zeroCells86) (t:=86) (full:=full) (by rw[HL3.out];rfl);generalize (wr.alloc (.cells Tryz.zeroCells86 86)).setCells wr.heap.size 0 full=W7 at*;have m0:W7.cell? (zd wr.heap.size)=some (za qn):=by
    rw[cell_of_row W7 wr.heap.size 0 _ _ _ F1,Hf2.out];simp
   have R7:W7.rangeAt wr.heap.size 1 cs:=by
    intro j v hj;rw[cell_of_row W7 wr.heap.size (1+j) _ _ _ F1,Hf2.out,Nat.add_comm];simpa using hj
   have hrow7:=(F2.block gD (by omega) (by omega)).trans Hrow.out;have T7:W7.there gD (qn*64) 64:=by
    intro j hj;constructor
    ·rw[World.cell?,hrow7];simp;rw[Hlk.out];omega
    ·rw[World.frozen?,hrow7];simp
   have y7:=F2.cell y0 (by omega);have C7:=hcw.step F2 (by omega);have Hrow7:Hid _:=hrow7;have hng:wr.heap.size≠gD:=by omega
   have hq2:(qn:Int)<(d.dur.length:Int)/64:=by omega
   have hq3:qn<d.dur.length/64:=by omega
   have u85:=Tryz.underlying72;have L1:=HL1.out;have L2:=HL2.out;have i85:(Tryz.prog.info? 72).map (·.size)=some cs.length:=by rw[L1];kernel_rfl
   have hst:(storeCells ⟨gD,qn*64,none⟩ cs).run Tryz.prog W7.drew= .ok () (W7.drew.setCells gD (qn*64) cs):=by
    have:=run_storeCells_cells (P:=Tryz.prog) gD (qn*64) cs 0 W7.drew (fun j hj=>by simpa using (T7 j (by omega)).1) (fun j hj=>by simpa using (T7 j (by omega)).2) L2;simpa using this
   clear F1 F2 hrow7 Hrow HR0 y0 y1 hcw u87 i87 i87l;go_region_held3 (fun w'=>w'.cell? (zd p)=some (.slice (some (zd gD)) (d.dur.length/64) (d.dur.length/64))∧w'.cell? (zd wr.heap.size)=some (za qn)∧w'.rangeAt wr.heap.size 1 cs∧w'.there gD (qn*64) 64)
    (first|exact⟨y7,m0,R7,T7⟩|exact⟨(Chg.setCells gD _ _ W7.drew).cell y7 (by omega),(Chg.setCells gD _ _ W7.drew).cell m0 (by omega),World.rangeAt_setCells_apart (w:=W7.drew) R7 _ _ _ (Or.inl hng),World.there_setCells (w:=W7.drew) T7 _ _ _⟩) (fail)
   have R1:Hid (Chg gD (gD+1) w (W7.drew.setCells gD (qn*64) cs)):=C7.drew.trans (Chg.setCells gD _ _ _);have R2:Hid ((W7.drew.setCells gD (qn*64) cs).heap[gD]?=some (.cells ((stl (fun _=>true) d.pend d.dur (k+1)).map (Value.int .u8)).toArray 72 (0,0))):=by
    have:=jb gD 72 cs (qn*64) W7.drew _ Hrow7.out (by rw[List.length_map,Hlk.out,L1];omega);rw[Hstep.out] at this;exact this
   clear hst u85 i85 L1 L2 R7 T7 m0 y7 C7 Hrow7 Hstep Hf2 Hlk;go_wp2;go_roundw
   case rel=>exact⟨k+1,by omega,by go_num,R1.out,R2.out⟩
   case measure=>simp[intOf];omega
  ·obtain rfl:k=d.pend.length:=by omega
   have G1:=(hcw.block p hpz (by omega)).trans Hbox.out;obtain⟨z0,z1,zf0,zf1⟩:=zn G1;have hvs:=J2 (fun _=>true) HV.out;have hl:=Zs (fun _=>true) d HV.out d.pend.length (Nat.le_refl _);have G2:(wr.setCell ⟨p,1,none⟩ (zc)).heap[p]?=some (.cells #[.slice (some (zd gD)) (d.dur.length/64) (d.dur.length/64),zc] 83 (0,0)):=by
    have:=heap_setCell_same wr p 1 _ _ (zc) G1;simpa using this
   have G3:(wr.setCell ⟨p,1,none⟩ (zc)).heap[gD]?=some (.cells ((stl (fun _=>true) d.pend d.dur d.pend.length).map (Value.int .u8)).toArray 72 (0,0)):=(Below.heap_setCell _ _ _ _ (fun e=>hpg e.symm)).trans Hrow.out;have HD:Hid (Dev (wr.setCell ⟨p,1,none⟩ (zc)) base p (setD (fun _=>true) d)):=by
    refine⟨gD,zc,hvs,hp,by rw[show(setD (fun _=>true) d).dur.length=d.dur.length from hl];exact G2,?_,World.ownsRow_nil _ _ _ _⟩;rw[show(setD (fun _=>true) d).dur.length=d.dur.length from hl];have h64:=HV.out.1;refine⟨by rw[List.length_map];show(stl _ _ _ _).length=_;rw[hl];omega,Or.inr ⟨gD,_,_,rfl,hgD,G3,Nat.le_refl _,by unfold maxLen;omega,by simp[hl];omega,?_⟩⟩;rw[List.take_of_length_le (by simp[hl];omega)]
    rfl
   have HC:Hid (Chg base w.heap.size w (wr.setCell ⟨p,1,none⟩ (zc))):=(hcw.widen (Or.inl hgD) (Or.inl hgz)).setCell (Or.inl ⟨hp,hpz⟩) _;clear G1 G2 G3 hvs hl hcw Hrow HP Hbox Hdur y0 y1;go_wp2;go_end0;exact⟨rfl,HD.out,HC.out⟩
theorem Yk (w:World){base p:Nat}{d:Dsk}(h:Dev w base p d):
  Calls Tryz.prog 18 #[.pointer (some (zd p))] w fun e w'=>e= .returned (.tuple #[])∧Dev w' base p (setD (fun _=>true) d)∧Chg base w.heap.size w w':=by
 go_enter Tryz.func18,Tryz.ntmps18;go_wp2_with fail;refine(UK w h).mono ?_;rintro e w1 ⟨rfl,hd,hc⟩;have HD:Hid _:=hd;clear hd h;go_wp2;go_end0;exact⟨rfl,HD.out,hc⟩
end Go.Proofs.YtacjklochmelfaaGreatDoor
