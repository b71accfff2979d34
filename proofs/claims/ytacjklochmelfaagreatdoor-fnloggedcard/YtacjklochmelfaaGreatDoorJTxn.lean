import Derived.Test.YtacjklochmelfaaGreatDoorEscMath
import Derived.Test.YtacjklochmelfaaGreatDoorLogDisk
import Derived.Test.YtacjklochmelfaaGreatDoorImplPcs
import Derived.Test.YtacjklochmelfaaGreatDoorHeldW
import Derived.Test.YtacjklochmelfaaGreatDoorOkSup
import Derived.Test.YtacjklochmelfaaGreatDoorJTake
import Derived.Test.YtacjklochmelfaaGreatDoorJAre
namespace Go.Proofs.YtacjklochmelfaaGreatDoor
open Go.RowKit Go.Shelf
set_option maxRecDepth 100000
set_option maxHeartbeats 16000000
attribute [local go_sem] Oper.semAt_some
theorem Dev.keep {w w':World}{base p:Nat}{d:Dsk}(h:Dev w base p d)(k: ∀i,i<w.heap.size→w'.heap[i]?=w.heap[i]?):Dev w' base p d:=by
 obtain⟨gD,pv,hv,hp,hb,hd,hpd⟩:=h;have K: ∀ {b:Nat} {o:Obj},w.heap[b]?=some o→w'.heap[b]?=some o:=fun hh=>(k _ (gLt hh)).trans hh;have R: ∀ {t:TypeId} {sz:Nat} {v:Value} {n:Nat} {xs:List Value},w.ownsRow base t sz v n xs→w'.ownsRow base t sz v n xs:=by
  intro t sz v n xs h;obtain⟨h1,h2⟩:=h;refine⟨h1,?_⟩;rcases h2 with h2|⟨g,cap,cur,hv,hg,hh,r⟩
  ·exact Or.inl h2
  ·exact Or.inr ⟨g,cap,cur,hv,hg,K hh,r⟩
 exact⟨gD,pv,hv,hp,K hb,R hd,R hpd⟩
theorem aah {d:Dsk}(h:d.pend= [])(a:Nat):see d a=blk d.dur a:=by unfold see blk;rw[h];rfl
def adE (xs:List FB) (i:Fin xs.length):Array Value:= #[za (i.val:Int),.agg ((xs.getD i.val (.raw [])).bs.map (Value.int .u8)).toArray]
def Qc (b:Nat) (V V':World):Prop:= ∀k,k<b→V'.heap[k]?=V.heap[k]?
theorem Vm (w:World)(p:Nat)(a b c:Int):
  Calls Tryz.prog 69 #[.pointer (some (zd p)),za a,za b,za c] w fun e w'=>
   e= .returned (.func (.func 111) #[] #[.pointer (some ⟨w.heap.size+1+1,0,none⟩),.pointer (some (zd w.heap.size)),.pointer (some (zd (w.heap.size+1))),.pointer (some (zd (w.heap.size+3)))])∧
   w'=(((w.alloc (.cells #[.pointer (some (zd p))] 52)).alloc (.cells #[za a] 2)).alloc (.cells #[za b] 2)).alloc (.cells #[za c] 2):=by
 go_enter Tryz.func69,Tryz.ntmps69;go_wp2;go_ret;exact⟨rfl,rfl⟩
theorem acW (B p base n sz pos k:Nat)(d:Dsk)(F:Nat→FB)(st sq:Int)(w:World)(hD:Dev w base p d)(hL:jJ d n sz F st sq)(hpos:pos<sz)(hk:k≤sz)
  (b0:w.cell? (zd B)=some (.pointer (some (zd p)))) (b1:w.cell? (zd (B+1))=some (za ((pos:Int)+1))) (b2:w.cell? ⟨B+1+1,0,none⟩=some (za k)) (b3:w.cell? (zd (B+3))=some (za sz)):
  aau Tryz.prog 111 #[.pointer (some ⟨B+1+1,0,none⟩),.pointer (some (zd B)),.pointer (some (zd (B+1))),.pointer (some (zd (B+3)))] (adE (win F sz pos k)) (fun _=>Qc w.heap.size)
   (fun xs=>xs.map Fin.val=List.range (win F sz pos k).length) (fun pre=>pre.map Fin.val=List.range pre.length) 600 w:=fun l J Jx W hW hJ hJx hY h0=>by
 have HW:Hid (∀V,Qc w.heap.size W V→(Dev V base p d∧V.cell? (zd B)=some (.pointer (some (zd p))))∧V.cell? (zd (B+1))=some (za ((pos:Int)+1))∧V.cell? ⟨B+1+1,0,none⟩=some (za k)∧V.cell? (zd (B+3))=some (za sz)):=fun V hV=>by
  have kk: ∀i,i<w.heap.size→V.heap[i]?=w.heap[i]?:=fun i hi=>(hV i hi).trans (hW.block i hi)
  have cc: ∀ {b o:Nat} {x:Value},w.cell? ⟨b,o,none⟩=some x→V.cell? ⟨b,o,none⟩=some x:=fun hc=>(World.cell?_of_block (kk _ (zF hc))).trans hc
  exact⟨⟨hD.keep kk,cc b0⟩,cc b1,cc b2,cc b3⟩
 have hJ0:=h0 W (Below.refl _ _)
 have hplt:=hD.lt
 have hmx:Tryz.prog.follows .mixedOrders=true:=by kernel_rfl
 have hbig:=hL.big
 have hsW:=hW.size
 have hwl:=QL F sz pos k
 have HL:Hid (jJ d n sz F st sq):=hL
 clear h0 hW b0 b1 b2 b3 hD hL
 obtain⟨⟨_,e0⟩,e1,e2,e3⟩:=HW.out W (fun _ _=>rfl)
 have HW0:Hid (∀V,Qc w.heap.size W V→(Dev V base p d∧V.cell? (zd B)=some (.pointer (some (zd p))))∧V.cell? (zd (B+1))=some (za ((pos:Int)+1))∧V.cell? ⟨B+1+1,0,none⟩=some (za k)∧V.cell? (zd (B+3))=some (za sz)):=HW.out
 refine callsIn_of_wp Tryz.func111 rfl trivial ?_ rfl
 simp only[Tryz.ntmps111,List.size_toArray,List.length_cons,List.length_nil,Nat.reduceAdd,Nat.reduceSub,Array.replicate_succ,Array.replicate_zero,List.push_toArray,List.append_toArray,List.nil_append,List.cons_append]
 gi_wp2
 gi_loopw [8] (fun x wr=> ∃(i:Nat) (pre:List (Fin (win F sz pos k).length)),x=za i∧i≤k∧pre.map Fin.val=List.range i∧W.heap.size≤wr.heap.size∧Qc w.heap.size W wr∧J pre wr)
  (fun x _=>k-(intOf x).toNat)
 case atStart=>exact⟨0,[],rfl,Nat.zero_le _,rfl,Nat.le_refl _,fun _ _=>rfl,hJ0⟩
 case round=>
  clear hJ0 e0 e1 e2 e3
  obtain⟨i,pre,rfl,hi,hpre,hsz,hkl,hJp⟩:=hrel
  have hplen:pre.length=i:=by have:=congrArg List.length hpre;simpa using this
  by_cases hlt:i<k
  ·have Hpre:Hid (pre.map Fin.val=List.range i):=hpre
   have hlt':i<(win F sz pos k).length:=by omega
   have e1:(i:Int)<(k:Int):=by omega
   clear hpre
   gi_wp2
   have hpl:qk sz ((pos:Int)+1) (i:Int)=(((pos+i) % sz:Nat):Int)+1:=by
    unfold qk;rw[show(pos:Int)+1-1+(i:Int)=((pos+i:Nat):Int) by omega];rfl
   have hm:=Nat.mod_lt (pos+i) (show 0<sz by omega)
   have hPf:=fun V=>jo V (sz:Int) ((pos:Int)+1) (i:Int) (by omega) (by omega) (by omega) (by omega) (by omega) (by omega)
   rw[hpl] at hPf
   have hdl:d.dur.length/64=n:=by rw[HL.out.dur];omega
   have hsee:see d (2+(pos+i) % sz)=((win F sz pos k).getD i (.raw [])).bs:=by
    rw[aah HL.out.pend,HL.out.at' _ hm];unfold win;simp[List.getD_eq_getElem?_getD,hlt]
   have HRd:Hid (∀V,Dev V base p d→p<V.heap.size→Calls Tryz.prog 66 #[.pointer (some (zd p)),za (2+(((pos+i) % sz:Nat):Int))] V fun e w'=>e= .returned (.agg (((win F sz pos k).getD i (.raw [])).bs.map (Value.int .u8)).toArray)∧Chg 0 0 V w'):=fun V hV hp=>by
    have:=KK V (2+(pos+i) % sz) hV (by omega) hp;rw[hsee,show((2+(pos+i) % sz:Nat):Int)=2+(((pos+i) % sz:Nat):Int) by omega] at this;exact this
   have HYi:Hid (∀V,W.heap.size≤V.heap.size→J pre V→Go.Proofs.YtacjklochmelfaaGreatDoor.Yields Tryz.prog l #[za i,.agg (((win F sz pos k).getD i (.raw [])).bs.map (Value.int .u8)).toArray] V fun e V'=>(V.heap.size≤V'.heap.size∧Qc w.heap.size V V')∧((e= .returned (.bool true)∧J (pre++ [⟨i,hlt'⟩]) V')∨(e= .returned (.bool false)∧Jx (pre++ [⟨i,hlt'⟩]) V'))):=fun V h1 h2=>hY pre ⟨i,hlt'⟩ V h1 h2 (by omega)
   obtain⟨m,hmm⟩: ∃m:Nat,m=(pos+i) % sz:=⟨_,rfl⟩
   rw[←hmm] at hPf HRd hm
   generalize ((win F sz pos k).getD i (.raw [])).bs.map (Value.int .u8)=cs at*
   have HJp:Hid (J pre wr):=hJp
   have HS:Hid ((fun w':World=>Qc w.heap.size W w') wr.drew):=hkl
   have cd:Chg 0 0 wr wr.drew:=Chg.drew (Chg.refl _ _ wr)
   have hsd:wr.drew.heap.size=wr.heap.size:=rfl
   have hwr1:IntKind.i64.wrap (1+((m:Int)+1))=2+(m:Int):=by rw[IntKind.wrap_i64];omega
   clear hmm hsee hY hdl hpl hJp
   refine ZL (fun w':World=>Qc w.heap.size W w') hmx ?_
   generalize wr.drew=X at*
   refine vTk 0 (.func (.yield l) #[] #[]) rfl (fun w' hw'=>by go_simp) HS.out ?_
   go_simp
   refine vTk 1 (za i) rfl (fun w' hw'=>by go_simp) HS.out ?_
   go_simp
   refine vTk 2 (.pointer (some (zd p))) rfl (fun w' hw'=>by have h4:=(HW0.out w' hw').1.2;go_simp) HS.out ?_
   go_simp
   refine vTk 3 (za ((pos:Int)+1)) rfl (fun w' hw'=>by have h4:=(HW0.out w' hw').2.1;go_simp) HS.out ?_
   go_simp
   refine vTk 4 (za i) rfl (fun w' hw'=>by go_simp) HS.out ?_
   go_simp
   refine vTk 5 (za sz) rfl (fun w' hw'=>by have h4:=(HW0.out w' hw').2.2.2;go_simp) HS.out ?_
   go_simp
   refine j4 6 rfl (by kernel_rfl) rfl (by kernel_rfl) ?_
   refine zl 28 #[za ((pos:Int)+1),za i,za sz] (by first|kernel_rfl|go_simp) (hPf X) ?_
   rintro e X' ⟨rfl,rfl⟩
   refine⟨_,rfl,HS.out,?_⟩
   go_simp
   refine vTk 7 (za (2+(m:Int))) rfl (fun w' hw'=>by go_simp) HS.out ?_
   go_simp
   refine j4 8 rfl (by kernel_rfl) rfl (by kernel_rfl) ?_
   refine zl 66 #[.pointer (some (zd p)),za (2+(m:Int))] (by first|kernel_rfl|go_simp) (HRd.out _ (HW0.out _ HS.out).1.1 (by omega)) ?_
   rintro e X2 ⟨rfl,c2⟩
   have s2:=c2.size
   have HS2:Hid ((fun w':World=>Qc w.heap.size W w') X2):=fun j hj=>(c2.block j (by omega) (by omega)).trans (HS.out j hj)
   refine⟨_,rfl,HS2.out,?_⟩
   go_simp
   obtain⟨fn,tmps,assign,body,hy,hR⟩:=HYi.out X2 (by omega) (hJ pre wr X2 none HJp.out (qT (cd.trans c2)) (fun r e=>by cases e))
   refine Yo 9 rfl (by kernel_rfl) rfl (by kernel_rfl) (by go_simp) hR ?_
   rintro e V3 ⟨⟨m1,m2⟩,hres⟩
   have HS3:Hid ((fun w':World=>Qc w.heap.size W w') V3):=fun j hj=>(m2 j hj).trans (HS2.out j hj)
   have hz3:W.heap.size≤V3.heap.size:=by omega
   clear hy hR m1 m2 c2 cd
   rcases hres with⟨rfl,hJ3⟩|⟨rfl,hJ3⟩
   ·refine⟨_,rfl,HS3.out,?_⟩;go_simp;refine vTk 10 (.bool false) rfl (fun w' hw'=>by go_simp) HS3.out ?_;go_simp;refine Zo (by kernel_rfl) ?_;refine jh.mk ?_;have HJ3:Hid (J (pre++ [⟨i,hlt'⟩]) V3):=hJ3;clear hJ3;gi_wp2;go_roundw
    case rel=>exact⟨i+1,pre++ [⟨i,hlt'⟩],by congr 1,hlt,by rw[List.map_append,Hpre.out,List.range_succ];rfl,hz3,HS3.out,HJ3.out⟩
    case measure=>simp[intOf];omega
   ·refine⟨_,rfl,HS3.out,?_⟩;go_simp;refine vTk 10 (.bool true) rfl (fun w' hw'=>by go_simp) HS3.out ?_;go_simp;refine Zo (by kernel_rfl) ?_;refine jh.mk ?_;have HJ3:Hid (Jx (pre++ [⟨i,hlt'⟩]) V3):=hJ3;clear hJ3;gi_wp2;refine bodyPost_ret (results_none rfl _ _ _) rfl ?_;refine⟨⟨_,rfl⟩,.inr ⟨pre++ [⟨i,hlt'⟩],?_,HJ3.out⟩⟩;rw[List.map_append,Hpre.out,List.length_append,hplen];exact List.range_succ.symm
  ·obtain rfl:i=k:=by omega
   have Hpre:Hid (pre.map Fin.val=List.range i):=hpre;have e1: ¬((i:Int)<(i:Int)):=by omega
   clear hY hpre hplen;gi_wp2;go_end0;exact⟨⟨_,rfl⟩,.inl ⟨pre,Hpre.out,hJp⟩⟩
attribute [local go_sem] Oper.semAt_some
structure jT (base:Nat)(w w':World):Prop where
 os:w'.os=w.os
 tape:w'.tape=w.tape
 output:w'.output=w.output
 size:w.heap.size≤w'.heap.size
 low: ∀k,k<base→w'.heap[k]?=w.heap[k]?
theorem qG.lo {base:Nat}{w w':World}(h:qG base w w'):jT base w w':=⟨h.os,h.tape,h.output,h.size,h.low⟩
theorem jT.trans {base:Nat}{a b c:World}(h:jT base a b)(k:jT base b c):jT base a c:=
 ⟨k.os.trans h.os,k.tape.trans h.tape,k.output.trans h.output,Nat.le_trans h.size k.size,fun i hi=>(k.low i hi).trans (h.low i hi)⟩
theorem jT.chg {base:Nat}{w w':World}(c:Chg 0 0 w w')(hb:base≤w.heap.size):jT base w w':=(qG.chg c hb).lo
theorem jT.put {base l:Nat}{w:World}(o:Obj)(hl:base≤l):jT base w (w.putObj l o):=
 ⟨rfl,rfl,rfl,by simp,fun k hk=>World.putObj_heap_other (by omega)⟩
theorem jT.grown {base:Nat}{w w':World}{row:Option Nat}(h:w.grownBy w' row)(hr: ∀r,row=some r→base≤r)(hb:base≤w.heap.size):jT base w w':=
 ⟨h.os,h.tape,h.output,h.size,fun k hk=>h.block k (by omega) (fun e=>by have:=hr k e.symm;omega)⟩
theorem jT.toChg {w w':World}(h:jT w.heap.size w w'):Chg 0 0 w w':=⟨h.os,h.tape,h.output,h.size,fun k hk _=>h.low k hk⟩
theorem JP.keep {w w':World}{base R:Nat}{s:RS}(h:JP w base R s)(k: ∀(j:Nat) (cur:Array Value) (t:TypeId),w.heap[j]?=some (.cells cur t (0,0))→w'.heap[j]?=some (.cells cur t (0,0))):JP w' base R s:=by
 obtain⟨sv,hv,rv,av,es,hR,hP⟩:=h;have K: ∀ {t:TypeId},zU t base w w':=fun j cur _ hh=>k j cur _ hh;exact⟨sv,hv,rv,av,es,k _ _ _ hR,zH hP.seen K,hP.homes.keep K K,hP.hs,zH hP.revs K,hP.aw.keep K⟩
def stP (xs:List FB) (pre:List (Fin xs.length)):RS:=(pre.map fun i=>xs.getD i.val (.raw [])).foldl (fun s x=>(zy s x).1) RS.zero
theorem EC (xs:List FB)(pre:List (Fin xs.length))(x:Fin xs.length):stP xs (pre++ [x])=(zy (stP xs pre) (xs.getD x.val (.raw []))).1:=by unfold stP;simp
theorem abk (s:RS)(x:FB)(h:x.ok):(zy s x).1.seen.length=s.seen.length+1∧(zy s x).1.homes.length≤s.homes.length+1∧(zy s x).1.revs.length≤s.revs.length+26:=by
 unfold zy;split
 ·split<;>simp
 ·cases x using FB.el with
  |rev q rs=>have:rs.length≤26:=h.2.2.2;simp;omega
  |des q ts=>simp
  |com q c m=>simp
  |raw b=>simp
theorem Xf {xs:List FB}(h: ∀x∈xs,x.ok)(i:Fin xs.length):(xs.getD i.val (.raw [])).ok:=by
 have:=i.isLt;rw[List.getD_eq_getElem?_getD,List.getElem?_eq_getElem this];exact h _ (List.getElem_mem this)
theorem abX: ∀(ys:List FB) (s:RS),(∀x∈ys,x.ok)→(ys.foldl (fun s x=>(zy s x).1) s).seen.length=s.seen.length+ys.length∧(ys.foldl (fun s x=>(zy s x).1) s).homes.length≤s.homes.length+ys.length∧(ys.foldl (fun s x=>(zy s x).1) s).revs.length≤s.revs.length+26*ys.length:=by
 intro ys
 induction ys with
 |nil=>intro s _;simp
 |cons x r ih=>
  intro s h;have h1:=abk s x (h x (by simp));have h2:=ih (zy s x).1 (fun y hy=>h y (by simp[hy]));rw[List.foldl_cons,List.length_cons];omega
theorem UM {xs:List FB}(h: ∀x∈xs,x.ok)(pre:List (Fin xs.length)):(stP xs pre).seen.length=pre.length∧(stP xs pre).homes.length≤pre.length∧(stP xs pre).revs.length≤26*pre.length:=by
 have:=abX (pre.map fun i=>xs.getD i.val (.raw [])) RS.zero (fun x hx=>by obtain⟨i,_,rfl⟩:=List.mem_map.1 hx;exact Xf h i);rw[List.length_map] at this;unfold stP;have z:RS.zero.seen.length=0∧RS.zero.homes.length=0∧RS.zero.revs.length=0:=⟨rfl,rfl,rfl⟩;omega
theorem KJ: ∀(ys zs:List FB) (s:RS),(∀j,j<ys.length→(zy ((ys.take j).foldl (fun s x=>(zy s x).1) s) (ys.getD j (.raw []))).2=true)→qa s (ys++zs)=qa (ys.foldl (fun s x=>(zy s x).1) s) zs:=by
 intro ys
 induction ys with
 |nil=>intro zs s _;rfl
 |cons y r ih=>
  intro zs s h;have h0:(zy s y).2=true:=by have:=h 0 (by simp);simpa using this
  rw[List.cons_append];show(if(zy s y).2=true then qa (zy s y).1 (r++zs) else _)=_;rw[if_pos h0,ih zs (zy s y).1 (fun j hj=>?_)]
  ·rfl
  ·have:=h (j+1) (by simpa using hj);simpa using this
def fP (xs:List FB) (pre:List (Fin xs.length)):List FB:=pre.map fun i=>xs.getD i.val (.raw [])
def EP (ys:List FB):Prop:= ∀j,j<ys.length→(zy ((ys.take j).foldl (fun s x=>(zy s x).1) RS.zero) (ys.getD j (.raw []))).2=true
theorem EP.snoc {ys:List FB}{y:FB}(h:EP ys)(hy:(zy (ys.foldl (fun s x=>(zy s x).1) RS.zero) y).2=true):EP (ys++ [y]):=by
 intro j hj;rw[List.length_append,List.length_singleton] at hj;by_cases hlt:j<ys.length
 ·rw[List.take_append_of_le_length (by omega)];have:=h j hlt;simpa [List.getD_eq_getElem?_getD,List.getElem?_append_left hlt] using this
 ·obtain rfl:j=ys.length:=by omega
  rw[List.take_append_of_le_length (Nat.le_refl _),List.take_length];simpa [List.getD_eq_getElem?_getD] using hy
theorem abT {xs:List FB}{pre:List (Fin xs.length)}{n:Nat}(hn:n≤xs.length)(h:pre.map Fin.val=List.range n):fP xs pre=xs.take n:=by
 have e:fP xs pre=(pre.map Fin.val).map fun i=>xs.getD i (.raw []):=by unfold fP;rw[List.map_map];rfl
 rw[e,h];apply List.ext_getElem
 ·simp;omega
 ·intro i h1 h2;simp at h1 h2⊢;rw[List.getElem?_eq_getElem (by omega)];rfl
theorem aaZ {xs:List FB}{pre:List (Fin xs.length)}(h:pre.map Fin.val=List.range xs.length)(ha:EP (fP xs pre)):qa RS.zero xs=stP xs pre:=by
 have e:=abT (Nat.le_refl _) h;rw[List.take_length] at e;have h1:=KJ xs [] RS.zero (by rw[e] at ha;exact ha);rw[List.append_nil] at h1;rw[h1];show xs.foldl _ RS.zero=(fP xs pre).foldl _ RS.zero;rw[e]
theorem aa0 {xs:List FB}{pre:List (Fin xs.length)}{x:Fin xs.length}(h:(pre++ [x]).map Fin.val=List.range (pre++ [x]).length)(ha:EP (fP xs pre))(hx:(zy (stP xs pre) (xs.getD x.val (.raw []))).2=false):qa RS.zero xs=stP xs (pre++ [x]):=by
 rw[List.map_append,List.length_append,List.length_singleton,List.range_succ] at h;have h':=List.append_inj h (by simp);have hxv:x.val=pre.length:=by have:=h'.2;simpa using this
 have hlt:=x.isLt;have e:=abT (by omega) h'.1;have ex:xs=fP xs pre++(xs.getD x.val (.raw [])::xs.drop (pre.length+1)):=by
  rw[e,hxv,List.getD_eq_getElem?_getD,List.getElem?_eq_getElem (by omega)];simp
 have h1:=KJ (fP xs pre) (xs.getD x.val (.raw [])::xs.drop (pre.length+1)) RS.zero ha;rw[←ex] at h1;rw[h1,EC];show(if(zy (stP xs pre) (xs.getD x.val (.raw []))).2=true then _ else(zy (stP xs pre) (xs.getD x.val (.raw []))).1)=_;rw[hx,if_neg (by simp)]
theorem qj.viewJ {w:World}{base:Nat}{v:Value}{es:List Hv}(h:qj w base v es)(h64: ∀e∈es,e.2.2.length≤64):qF w base w.heap.size v (es.map fun e=>(e.1,e.2.2)):=by
 have hl:(es.map fun e=>(e.1,e.2.2)).length=es.length:=by simp
 have h':=h.row;rcases h.row.2 with⟨e,h0⟩|⟨g,cap,cur,e,hg,hh,hc,hm,_⟩
 ·have:es= []:=List.eq_nil_of_length_eq_zero h0;subst this;exact⟨none,0,by rw[e];rfl,by simp,by simp,Or.inl rfl⟩
 ·subst e;unfold maxLen at hm;refine⟨_,cap,by rw[hl],by omega,by omega,?_⟩;refine Or.inr ⟨g,0,rfl,hg,(h'.lt g rfl).2,fun i hi=>?_⟩;rw[hl] at hi;obtain⟨a,b⟩:=Qd.cells h' i hi;have e:(es.map fun e=>(e.1,e.2.2)).getD i (0,[])=(es[i].1,es[i].2.2):=by simp[List.getD_eq_getElem?_getD,hi]
  rw[e];have hd:=h.data es[i] (List.getElem_mem hi);exact⟨es[i].2.1,by rw[Nat.zero_add];exact a,by rw[Nat.zero_add];exact b,hd.view (by have:=h64 es[i] (List.getElem_mem hi);omega) (fun g hg=>(hd.lt g hg).2)⟩
theorem Pts.keepC {w w':World}{base:Nat}{s:RS}{sv hv rv av:Value}{es:List Hv}(hP:Pts w base s sv hv rv av es)(k: ∀(j:Nat) (cur:Array Value) (t:TypeId),base≤j→w.heap[j]?=some (.cells cur t (0,0))→w'.heap[j]?=some (.cells cur t (0,0))):Pts w' base s sv hv rv av es:=by
 have K: ∀ {t:TypeId},zU t base w w':=fun j cur hj hh=>k j cur _ hj hh;exact⟨zH hP.seen K,hP.homes.keep K K,hP.hs,zH hP.revs K,hP.aw.keep K⟩
structure QV (s:RS):Prop where
 sl: ∀b∈s.seen,b.length=64∧Byt b
 hl: ∀h∈s.homes,h.2.length=64∧Byt h.2
theorem NP {xs:List Int}(h:Byt xs)(e:Bool):Byt (jD xs e):=by
 unfold jD;split
 ·exact Byt.app (fun x hx=>by unfold mg at hx;simp at hx;omega) (h.drop 4)
 ·exact h
theorem QV.take {s:RS}(h:QV s){x:FB}(hx:x.ok):QV (zy s x).1:=by
 have h1: ∀b∈s.seen++ [x.bs],b.length=64∧Byt b:=fun b hb=>by
  rcases List.mem_append.1 hb with hb|hb
  ·exact h.sl b hb
  ·rw[List.mem_singleton.1 hb];exact⟨FB.len hx,FB.byt hx⟩
 unfold zy;split
 ·split
  ·refine⟨h1,fun y hy=>?_⟩;rcases List.mem_append.1 hy with hy|hy
   ·exact h.hl y hy
   ·rw[List.mem_singleton.1 hy];exact⟨JL (FB.len hx) _,NP (FB.byt hx) _⟩
  ·exact⟨h1,h.hl⟩
 ·cases x using FB.el with
  |rev q rs=>exact⟨h1,h.hl⟩
  |des q ts=>exact⟨h1,h.hl⟩
  |com q c m=>exact⟨h1,h.hl⟩
  |raw b=>exact⟨h1,h.hl⟩
theorem QV.fold: ∀(ys:List FB) (s:RS),QV s→(∀x∈ys,x.ok)→QV (ys.foldl (fun s x=>(zy s x).1) s):=by
 intro ys
 induction ys with
 |nil=>intro s h _;exact h
 |cons y r ih=>intro s h hy;exact ih _ (h.take (hy y (by simp))) (fun x hx=>hy x (by simp[hx]))
theorem QV.stP {xs:List FB}(h: ∀x∈xs,x.ok)(pre:List (Fin xs.length)):QV (Go.Proofs.YtacjklochmelfaaGreatDoor.stP xs pre):=
 QV.fold _ _ ⟨by simp[RS.zero],by simp[RS.zero]⟩ (fun x hx=>by obtain⟨i,_,rfl⟩:=List.mem_map.1 hx;exact Xf h i)
theorem E1: ∀(ps:List Wr),(∀p∈ps,p.2.length=64)→cnt ps=65*ps.length:=by
 intro ps
 induction ps with
 |nil=>intro _;rfl
 |cons p r ih=>
  intro h;have:=ih (fun q hq=>h q (by simp[hq]));unfold cnt at*;rw[List.map_cons,List.sum_cons,this,h p (by simp),List.length_cons];omega
def qE (w:World) (base:Nat) (hv rv:Value) (t:Tx):Prop:= ∃es:List Hv,qj w base hv es∧es.map (fun e=>(e.1,e.2.2))=t.homes∧(∀e∈es,e.2.2.length=64∧Byt e.2.2)∧zP w base 2 rv t.revs∧t.revs.length≤20000∧es.length≤10000
theorem qE.view {w:World}{base:Nat}{hv rv:Value}{t:Tx}(h:qE w base hv rv t):qF w base w.heap.size hv t.homes∧zr w base w.heap.size .i64 rv t.revs∧(∀x∈t.homes,Byt x.2)∧Z3 t≤1000000:=by
 obtain⟨es,h1,h2,h3,h4,h5,h6⟩:=h;have h7:=h1.viewJ (fun e he=>by rw[(h3 e he).1];omega);rw[h2] at h7;refine⟨h7,h4.view (by omega) (fun g hg=>(h4.lt g hg).2),fun x hx=>?_,?_⟩
 ·rw[←h2] at hx;obtain⟨e,he,rfl⟩:=List.mem_map.1 hx;exact(h3 e he).2
 ·unfold Z3;rw[E1 _ (fun p hp=>by rw[←h2] at hp;obtain⟨e,he,rfl⟩:=List.mem_map.1 hp;exact(h3 e he).1),←h2,List.length_map];omega
theorem qE.keep {w w':World}{base:Nat}{hv rv:Value}{t:Tx}(h:qE w base hv rv t)(k: ∀(j:Nat) (cur:Array Value) (T:TypeId),base≤j→T≠35→w.heap[j]?=some (.cells cur T (0,0))→w'.heap[j]?=some (.cells cur T (0,0))):qE w' base hv rv t:=by
 obtain⟨es,h1,h2,h3,h4,h5⟩:=h;exact⟨es,h1.keep (fun j cur hj hh=>k j cur _ hj (by decide) hh) (fun j cur hj hh=>k j cur _ hj (by decide) hh),h2,h3,zH h4 (fun j cur hj hh=>k j cur _ hj (by decide) hh),h5⟩
theorem qE.low {w:World}{base base':Nat}{hv rv:Value}{t:Tx}(h:qE w base hv rv t)(hb:base'≤base):qE w base' hv rv t:=by
 obtain⟨es,h1,h2,h3,h4,h5⟩:=h;exact⟨es,h1.low hb,h2,h3,h4.lowI hb,h5⟩
def adT (w w':World) (s:RS) (e:Ending):Prop:= ∃hv rv,Chg 0 0 w w'∧
 ((TL s.txn=s.seen∧e= .returned (.tuple #[.agg #[za s.seq,hv,rv],za (s.seen.length:Int)])∧qE w' w.heap.size hv rv s.txn)∨
  (TL s.txn≠s.seen∧e= .returned (.tuple #[.agg #[za 0,zc,zc],za 0])))
structure RtI (w:World)(xs:List FB)(pre:List (Fin xs.length))(V:World):Prop where
 rd:JP V (w.heap.size+1) (w.heap.size+1) (stP xs pre)
 al:EP (fP xs pre)
 rs:V.heap[w.heap.size]?=some (.cells #[za 0,zc,zc] 35 (0,0))
 lo:jT w.heap.size w V
structure RtX (w:World)(xs:List FB)(c:Code)(pre:List (Fin xs.length))(V:World):Prop where
 c:c= .exit 0
 rd:JP V (w.heap.size+1) (w.heap.size+1) (stP xs pre)
 al: ∃p x,pre=p++ [x]∧EP (fP xs p)∧(zy (stP xs p) (xs.getD x.val (.raw []))).2=false
 rs:V.heap[w.heap.size]?=some (.cells #[za 0,zc,zc] 35 (0,0))
 lo:jT w.heap.size w V
theorem Vy (w:World){gf:Nat}{lb:Array Value}{xs:List FB}{tL tM tK:TypeId}{vL vM vK:Value}(hG:jl w tL tM tK vL vM vK)(hE:Zg w)(hM:Mag w)(hx: ∀x∈xs,x.ok)(hl:xs.length≤512)(hGw:8≤w.heap.size)(eg: ∀args w,(callFunc gf args).run Tryz.prog w= .ok (.enter gf args) w)
  (hseq:aau Tryz.prog gf lb (adE xs) (fun _=>Qc w.heap.size) (fun zs=>zs.map Fin.val=List.range xs.length) (fun pre=>pre.map Fin.val=List.range pre.length) 600 w):
  Calls Tryz.prog 68 #[.func (.func gf) #[] lb] w fun e w'=>adT w w' (qa RS.zero xs) e:=by
 have cA:Chg 0 0 w ((w.alloc (.cells #[za 0,zc,zc] 35)).alloc (.cells #[zc,za 0,zc,zc,zc] 207)):=(Chg.alloc (Chg.refl 0 0 w) _).alloc _;obtain⟨z1,z2,z3⟩:=zN w (.cells #[za 0,zc,zc] 35) (.cells #[zc,za 0,zc,zc,zc] 207);refine(callsIn_wide (n:=0)).1 ?_;refine callsIn_of_wp_marks Tryz.func68 rfl trivial ?_ rfl;simp only[Tryz.ntmps68,List.size_toArray,List.length_cons,List.length_nil,Nat.reduceAdd,Nat.reduceSub,Array.replicate_succ,Array.replicate_zero,List.push_toArray,List.append_toArray,List.nil_append,List.cons_append]
 gi_wp2;generalize (w.alloc (.cells #[za 0,zc,zc] 35)).alloc (.cells #[zc,za 0,zc,zc,zc] 207)=wL at*;have y1a:wL.heap.size≤w.heap.size+2:=by omega
 have y1b:w.heap.size+2≤wL.heap.size:=by omega
 clear z1;have hG0:=hG.chg cA (by omega);have HGv:Hid (∀V,jT w.heap.size w V→(jl V tL tM tK vL vM vK∧Zg V)∧Mag V):=fun V hV=>by
  have cc: ∀ {b o:Nat} {x:Value},w.cell? ⟨b,o,none⟩=some x→V.cell? ⟨b,o,none⟩=some x:=fun hc=>(World.cell?_of_block (hV.low _ (zF hc))).trans hc;exact⟨⟨⟨cc hG.eL,cc hG.eM,cc hG.eK,cc hG.m0,cc hG.m1,cc hG.m2,cc hG.m3⟩,cc hE⟩,⟨cc hM.m0,cc hM.m1,cc hM.m2,cc hM.m3⟩⟩
 have hRd0:JP wL (w.heap.size+1) (w.heap.size+1) RS.zero:=
  ⟨zc,zc,zc,zc,[],z3,⟨rfl,Or.inl ⟨rfl,rfl⟩⟩,qj.zero _ _,rfl,⟨rfl,Or.inl ⟨rfl,rfl⟩⟩,none,0,rfl,Nat.le_refl _,by omega,fun h=>absurd h (by simp[RS.zero])⟩
 have hkeep: ∀ {A C:World} {row:Option Nat},A.grownBy C row→(∀r,row=some r→wL.heap.size≤r∧ ∃o:Obj,A.heap[r]?=some o∧o.isCells=false)→ ∀(j:Nat) (cur:Array Value) (t:TypeId),A.heap[j]?=some (.cells cur t (0,0))→C.heap[j]?=some (.cells cur t (0,0)):=fun hg hr j cur t hh=>Zk hh hg (fun r e=>(hr r e).2)
 have hI':OwnFrom wL.heap.size (RtI w xs):=fun pre A C row h hg hr=>
  ⟨h.rd.keep (hkeep hg hr),h.al,hkeep hg hr _ _ _ h.rs,h.lo.trans (jT.grown hg (fun r e=>by have:=(hr r e).1;omega) h.lo.size)⟩
 have hIx': ∀c,OwnFrom wL.heap.size (RtX w xs c):=fun c pre A C row h hg hr=>
  ⟨h.c,h.rd.keep (hkeep hg hr),h.al,hkeep hg hr _ _ _ h.rs,h.lo.trans (jT.grown hg (fun r e=>by have:=(hr r e).1;omega) h.lo.size)⟩
 refine QE (n:=0) (Kp:=jT w.heap.size) (gf:=gf) (lb:=lb) (w0:=w) rfl eg hseq (fun h=>h.low) (cA.below (Or.inl (Nat.le_refl _))) (fun _=>rfl) jT.trans (fun V o _ hb=>jT.put o (by omega))
  (RtI w xs) (RtX w xs) hI' hIx' ?h0
  (fun x a' V=> ∃Bx,V.heap[Bx]?=some (.cells ((xs.getD x.val (.raw [])).bs.map (Value.int .u8)).toArray 72 (0,0))∧a'= {tmps:= #[.func (.func gf) #[] lb,undef,.pointer (some (zd w.heap.size)),za 0,.pointer (some (zd (w.heap.size+1))),undef,.pointer (some (zd Bx)),.func (.func gf) #[] lb,za (x.val:Int),.agg ((xs.getD x.val (.raw [])).bs.map (Value.int .u8)).toArray,undef,undef,undef,undef,undef,undef,undef,undef,undef,undef,undef,undef,undef,undef,undef],defers:= []})
  ?hAx ?assign ?body ?done ?stop
 case h0=>
  intro V hV hsz;have cV:Chg 0 0 wL V:=Chg.ofBelow hV 0 0;exact⟨hRd0.keep (fun j cur t hh=>(hV.block j (gLt hh)).trans hh),fun j hj=>absurd hj (by simp[fP]),(hV.block _ (by omega)).trans z2,jT.chg (cA.trans cV) (Nat.le_refl _)⟩
 case hAx=>
  rintro x a' _ A C row ⟨Bx,h2,h3⟩ hg hr;exact⟨Bx,Zk h2 hg (fun r e=>(hr r e).2),h3⟩
 case assign=>
  rintro l' zs x V K' hMV hrec hi' hK';simp only[adE];have hln:((xs.getD x.val (.raw [])).bs.map (Value.int .u8)).length=64:=by rw[List.length_map];exact FB.len (Xf hx x)
  have h1c: ∀v∈(xs.getD x.val (.raw [])).bs.map (Value.int .u8),v.oneCell'=true:=ints_oneCell _ _;have hics:(Tryz.prog.info? 72).map (·.size)=some ((xs.getD x.val (.raw [])).bs.map (Value.int .u8)).length:=by rw[hln];kernel_rfl
  generalize (xs.getD x.val (.raw [])).bs.map (Value.int .u8)=cs at*;gi_wp2_with (refine wpListIn_plain rfl fun K hK=>?_;refine jH (fun _ h=>by cases h) ?_;refine wp_store_row 72 (.tmp 6) (.tmp 9) rfl rfl V.heap.size rfl cs _ 72 rfl (zh V _) (by rw[hln];rfl) hics h1c ?_;intro wg hbg hcg;refine hK _ _ ?_);have cv:Chg 0 0 V wg:=(Chg.alloc (Chg.refl 0 0 V) _).step hcg (Or.inr (Or.inl (Nat.le_refl _)))
  have hs:=hi'.lo.size;refine hK' _ _ ⟨cv.size,cv.block _ (by omega) (by omega),cv.block _ (by omega) (by omega)⟩ (jT.chg cv hs) ?_ ⟨V.heap.size,hbg,rfl⟩;exact hI' _ V wg none hi' (qT cv) (fun r e=>by cases e)
 case body=>
  rintro l' zs x a' V hMV ⟨r,hrec⟩ hi' ⟨Bx,hbx,rfl⟩ hlen;have hlo:=hi'.lo;obtain⟨⟨hGV,hEV⟩,_⟩:=HGv.out V hlo;obtain⟨n1,n2,n3⟩:=UM hx zs;have hN:=adf V (x:=xs.getD x.val (.raw [])) hi'.rd (Nat.le_refl _) hGV hEV (Xf hx x) (by omega) (by omega) (by omega) (by omega);have hln:((xs.getD x.val (.raw [])).bs.map (Value.int .u8)).length=64:=by rw[List.length_map];exact FB.len (Xf hx x)
  have hics:(Tryz.prog.info? 72).map (·.size)=some ((xs.getD x.val (.raw [])).bs.map (Value.int .u8)).length:=by rw[hln];kernel_rfl
  have HRg:Hid _:=zj hbx;have u28:=Tryz.underlying72;have HI:Hid _:=hi';have hsn:=EC xs zs x;have HSn:Hid _:=hsn;clear hsn hln hbx hi' hseq hGV hEV;generalize (xs.getD x.val (.raw [])).bs.map (Value.int .u8)=cs at*;gi_wp2_with (refine wpListIn_plain rfl fun K hK=>?_;refine jH (fun _ h=>by cases h) ?_;refine wp_load_mid 72 (.tmp 6) rfl Bx 0 rfl cs _ HRg.out u28 rfl hics ?_;refine hK _ _ ?_);refine⟨trivial,rfl,((callsIn_wide.2 hN).inRound l').mono ?_⟩
  rintro e V2 ⟨rfl,hT,hR⟩;rw[←HSn.out] at hR;have hlo2:jT w.heap.size V V2:=⟨hT.os,hT.tape,hT.output,hT.size,fun k hk=>hT.low k (by omega)⟩;have HK2:Hid (jX wL.heap.size V V2∧jT w.heap.size V V2):=⟨⟨hT.size,(hT.obj _ _ hrec.df rfl).trans hrec.df.symm,(hT.obj _ _ hrec.lp rfl).trans hrec.lp.symm⟩,hlo2⟩;have Hrs:Hid (V2.heap[w.heap.size]?=some (.cells #[za 0,zc,zc] 35 (0,0))):=(hT.low _ (by omega)).trans HI.out.rs
  have HR2:Hid _:=hR;have Hlo:Hid _:=hlo.trans hlo2;have HfP:Hid (fP xs (zs++ [x])=fP xs zs++ [xs.getD x.val (.raw [])]):=by show _=_;unfold fP;simp
  obtain⟨tb,Htb⟩: ∃tb,Hid (tb=(zy (stP xs zs) (xs.getD x.val (.raw []))).2):=⟨_,rfl⟩;rw[←Htb.out];clear hN hR hT hlo2 HSn
  cases tb with
  |true=>
   have HF:Hid ((jX wL.heap.size V V2∧jT w.heap.size V V2)∧RtI w xs (zs++ [x]) V2):=⟨HK2.out,HR2.out,by rw[HfP.out];exact HI.out.al.snoc Htb.out.symm,Hrs.out,Hlo.out⟩;clear HI HR2;gi_wp2;exact HF.out
  |false=>
   have HF:Hid ((jX wL.heap.size V V2∧jT w.heap.size V V2)∧RtX w xs (.exit 0) (zs++ [x]) V2):=⟨HK2.out,rfl,HR2.out,⟨zs,x,rfl,HI.out.al,Htb.out.symm⟩,Hrs.out,Hlo.out⟩;clear HI HR2;gi_wp2;exact HF.out
 case done=>
  rintro D zs V hD hS hi' hK';have hrd:=aaZ hS hi'.al;have hrr:=hi'.rd;have hrs:=hi'.rs;have hlo:=hi'.lo;rw[←hrd] at hrr;have hfn:=QV.stP hx zs;obtain⟨n1,n2,n3⟩:=UM hx zs;have hzl:zs.length=xs.length:=by have:=congrArg List.length hS;simpa using this
  rw[←hrd] at hfn n1 n2 n3;clear hi';obtain⟨sv,hv,rv,av,es,hR,hP⟩:=hrr;obtain⟨s,hs⟩: ∃s,s=qa RS.zero xs:=⟨_,rfl⟩;rw[←hs] at hfn n1 n2 n3 hR hP;have Hs:Hid _:=hs.symm;have m1:s.seen.length≤600:=by omega
  have m2:s.homes.length≤600:=by omega
  have m3:s.revs.length≤15600:=by omega
  clear hs hrd n1 n2 n3 hzl hS;have hDl:=(gLt hK');have hRl:=(gLt hR);have hee: ∀e∈es,e.2.2.length=64:=fun e he=>by
   have hm:(e.1,e.2.2)∈s.homes:=by rw[←hP.hs];exact List.mem_map.2 ⟨e,he,rfl⟩
   exact(hfn.hl _ hm).1
  have Hee:Hid (∀e∈es,e.2.2.length=64∧Byt e.2.2):=fun e he=>by
   have hm:(e.1,e.2.2)∈s.homes:=by rw[←hP.hs];exact List.mem_map.2 ⟨e,he,rfl⟩
   exact hfn.hl _ hm
  have hcnt:Z3 s.txn≤1048576:=by
   unfold Z3 RS.txn;simp only;rw[E1 _ (fun p hp=>(hfn.hl p hp).1)];omega
  have hHv: ∀ {W:World} {hv':Value},qj W (w.heap.size+1) hv' es→qF W w.heap.size W.heap.size hv' s.homes:=fun{W hv'} ho=>by
   have:=ho.viewJ (fun e he=>by rw[hee e he];omega);rw[hP.hs] at this;exact this.mono (by omega) (Nat.le_refl _)
  have hRv: ∀ {W:World} {rv':Value},zP W (w.heap.size+1) 2 rv' s.revs→zr W w.heap.size W.heap.size .i64 rv' s.revs:=fun{W rv'} ho=>
   (ho.view (by omega) (fun g hg=>(ho.lt g hg).2)).mono (by omega) (Nat.le_refl _)
  have hN:=Yb V (t:=s.txn) (bs:=s.seen) (lo:=w.heap.size) (hi:=V.heap.size) (a:= .agg #[za s.seq,hv,rv]) hcnt (Nat.le_refl _) (fun x hx=>(hfn.hl x hx).2) (HGv.out V hlo).2 ⟨hv,rv,rfl,hHv hP.homes,hRv hP.revs⟩ hP.seen (fun b hb=>(hfn.sl b hb).1) (fun b hb=>(hfn.sl b hb).2);obtain⟨y0,y1,y2,y3,_,_⟩:=qy hR;obtain⟨sa,sn,sc,rfl⟩:=zx hP.seen;obtain rfl:sn=s.seen.length:=by
   rcases hP.seen.2 with⟨e,h0⟩|⟨g,cap,cur,e,_⟩
   ·cases e;exact h0.symm
   ·simp only[Value.slice.injEq] at e;exact e.2.1
  obtain⟨ha,hn,hc,rfl⟩:=hP.homes.slice;obtain⟨ra,rc,rfl⟩:=hP.revs.shape;have HP:Hid _:=hP;have HR:Hid _:=hR;have HK:Hid _:=hK';have Hrs:Hid _:=hrs;have hDB:=hD;clear hHv hRv hP hR hK' hrs hfn hcnt hee hseq hD;gi_wp2;refine⟨trivial,rfl,(callsIn_wide.2 hN).mono ?_⟩;rintro e V2 ⟨rfl,c2⟩;have s2:=c2.size;have HP2:Hid _:=HP.out.chg c2 (by omega);have HR2:Hid _:=(c2.block _ (by omega) (by omega)).trans HR.out
  have HK2:Hid _:=(c2.block _ (by omega) (by omega)).trans HK.out;have Hrs2:Hid _:=(c2.block _ (by omega) (by omega)).trans Hrs.out;have Hlo2:Hid _:=hlo.trans (jT.chg c2 (by omega));clear HP HR HK Hrs c2 hN y0 y1 y2 y3;by_cases hT:TL s.txn=s.seen
  case neg=>
   have HT:Hid _:=hT;rw[decide_eq_false hT];obtain⟨⟨q0,q1,q2⟩,f0,f1,f2⟩:=tri Hrs2.out;clear hT;gi_wp2;have r1:(V2.setCell (zd w.heap.size) (za 0)).heap[w.heap.size]?=some (.cells #[za 0,zc,zc] 35 (0,0)):=js Hrs2.out _;have r2:((V2.setCell (zd w.heap.size) (za 0)).setCell ⟨w.heap.size,1,none⟩ (zc)).heap[w.heap.size]?=some (.cells #[za 0,zc,zc] 35 (0,0)):=js r1 _;have r3:(((V2.setCell (zd w.heap.size) (za 0)).setCell ⟨w.heap.size,1,none⟩ (zc)).setCell ⟨w.heap.size,2,none⟩ (zc)).heap[w.heap.size]?=some (.cells (List.toArray [za 0,zc,zc]) 35 (0,0)):=js r2 _
   have c3:Chg w.heap.size (w.heap.size+1) V2 (((V2.setCell (zd w.heap.size) (za 0)).setCell ⟨w.heap.size,1,none⟩ (zc)).setCell ⟨w.heap.size,2,none⟩ (zc)):=
    (((Chg.refl _ _ V2).setCell (p:=(zd w.heap.size)) (Or.inl ⟨Nat.le_refl _,Nat.lt_succ_self _⟩) _).setCell (p:=⟨w.heap.size,1,none⟩) (Or.inl ⟨Nat.le_refl _,Nat.lt_succ_self _⟩) _).setCell (p:=⟨w.heap.size,2,none⟩) (Or.inl ⟨Nat.le_refl _,Nat.lt_succ_self _⟩) _
   generalize ((V2.setCell (zd w.heap.size) (za 0)).setCell ⟨w.heap.size,1,none⟩ (zc)).setCell ⟨w.heap.size,2,none⟩ (zc)=V3 at*;have hK3:=(c3.block D (by omega) (by omega)).trans HK2.out;have hl1: ∀o,(loadVar 35 (zd w.heap.size)).run Tryz.prog (V3.putObj D o)= .ok (.agg (List.toArray [za 0,zc,zc])) (V3.putObj D o):=fun o=>run_loadVar_mid _ _ _ _ [za 0,zc,zc] _ (zj ((World.putObj_heap_other (by omega)).trans r3)) Tryz.underlying35 rfl (by kernel_rfl)
   refine⟨by simp,.inl ⟨_,_,rfl,run_takeDeferred hK3,?_⟩⟩;refine⟨_,jB Tryz.results68 rfl rfl (hl1 _),zc,zc,?_,Or.inr ⟨by rw[Hs.out];exact HT.out,rfl⟩⟩;exact(Hlo2.out.toChg.step c3 (by omega)).step (l:=D) (r:=D+1) ⟨rfl,rfl,rfl,by simp,fun k _ ho=>World.putObj_heap_other (by omega)⟩ (by omega)
  have HT:Hid _:=hT;rw[decide_eq_true hT];clear hT;have hmx:Tryz.prog.follows .mixedOrders=true:=by kernel_rfl
  gi_wp2;have HS:Hid ((fun w':World=>w'.heap[w.heap.size+1]?=some (rdO (.slice sa s.seen.length sc) s.seq (.slice ha hn hc) (.slice ra s.revs.length rc) av)) V2.drew):=HR2.out;refine ZL (fun w':World=>w'.heap[w.heap.size+1]?=some (rdO (.slice sa s.seen.length sc) s.seq (.slice ha hn hc) (.slice ra s.revs.length rc) av)) hmx ?_;have c3:Chg 0 0 V2 V2.drew:=Chg.drew (Chg.refl _ _ V2);have Hrs3:Hid (V2.drew.heap[w.heap.size]?=some (.cells (List.toArray [za 0,zc,zc]) 35 (0,0))):=Hrs2.out
  have HK3:Hid (V2.drew.heap[D]?=some (.deferred (some []))):=HK2.out;have HP3:Hid _:=HP2.out.chg c3 (by omega);have Hlo3:Hid _:=Hlo2.out.trans (jT.chg c3 (by omega));have s3:V2.heap.size≤V2.drew.heap.size:=Nat.le_refl _;clear c3 Hrs2 HK2 HP2 Hlo2 HR2;generalize V2.drew=X at*;refine vTk 0 (.pointer (some ⟨w.heap.size+1,1,none⟩)) rfl (fun w' hw'=>by go_simp) HS.out ?_;go_simp;refine vTk 1 (.agg #[za s.seq,.slice ha hn hc,.slice ra s.revs.length rc]) rfl (fun w' hw'=>by obtain⟨_,h1,h2,h3,_⟩:=qy hw';go_simp) HS.out ?_
  go_simp;refine vTk 2 (.pointer (some (zd (w.heap.size+1)))) rfl (fun w' hw'=>by go_simp) HS.out ?_;go_simp;refine vTk 3 (.slice sa s.seen.length sc) rfl (fun w' hw'=>by obtain⟨h1,_⟩:=qy hw';go_simp) HS.out ?_;go_simp;refine vTk 4 (za (s.seen.length:Int)) rfl (fun w' hw'=>by go_simp) HS.out ?_;go_simp;refine j4 5 rfl (by kernel_rfl) rfl (by kernel_rfl) ?_;refine wp_store_row 35 (.tmp 2) (.tmp 21) rfl rfl w.heap.size rfl [za s.seq,.slice ha hn hc,.slice ra s.revs.length rc] [za 0,zc,zc] 35 rfl Hrs3.out rfl (by kernel_rfl) (by simp[Value.oneCell']) ?_
  intro X4 r4 c4;have s4:=c4.size;have HS4:Hid _:=(c4.block _ (by omega) (by omega)).trans HS.out;have HK4:Hid (X4.heap[D]?=some (.deferred (some []))):=(c4.block D (by omega) (by omega)).trans HK3.out;have HP4:Hid _:=HP3.out.chg c4 (by omega);have Hch4:Hid _:=Hlo3.out.toChg.step c4 (by omega);have Hr4:Hid _:=r4;refine⟨HS4.out,?_⟩;clear r4 c4 HP3 Hlo3 HK3 Hrs3;go_simp;refine j4 6 rfl (by kernel_rfl) rfl (by kernel_rfl) ?_
  refine qA (v:=za (s.seen.length:Int)) (w':=X4) (by first|kernel_rfl|go_simp) ⟨HS4.out,?_⟩;go_simp;refine Zo (by kernel_rfl) ?_;refine jh.mk ?_;gi_wp2;have hl1: ∀o,(loadVar 35 (zd w.heap.size)).run Tryz.prog (X4.putObj D o)= .ok (.agg (List.toArray [za s.seq,.slice ha hn hc,.slice ra s.revs.length rc])) (X4.putObj D o):=fun o=>run_loadVar_mid _ _ _ _ [za s.seq,.slice ha hn hc,.slice ra s.revs.length rc] _ (zj ((World.putObj_heap_other (by omega)).trans Hr4.out)) Tryz.underlying35 rfl (by kernel_rfl)
  refine⟨by simp,.inl ⟨_,_,rfl,run_takeDeferred HK4.out,?_⟩⟩;have hPf:=HP4.out.keepC (w':=X4.putObj D (.deferred none)) (fun j cur t _ hh=>(World.putObj_heap_other (fun e=>by rw[e,HK4.out] at hh;cases hh)).trans hh);refine⟨_,jB Tryz.results68 rfl rfl (hl1 _),.slice ha hn hc,.slice ra s.revs.length rc,?_,Or.inl ⟨by rw[Hs.out];exact HT.out,by rw[Hs.out];rfl,by rw[Hs.out];exact qE.low ⟨es,hPf.homes,hPf.hs,Hee.out,hPf.revs,by show s.revs.length≤20000;omega,by rw[hPf.hlen];omega⟩ (by omega)⟩⟩
  exact Hch4.out.step (l:=D) (r:=D+1) ⟨rfl,rfl,rfl,by simp,fun k _ ho=>World.putObj_heap_other (by omega)⟩ (by omega)
 case stop=>
  rintro D c zs V hD hSp ⟨rfl,hrr,⟨p,x,rfl,hal,htk⟩,hrs,hlo⟩ hK';have hrd:=aa0 hSp hal htk;rw[←hrd] at hrr;have hfn:=QV.stP hx (p++ [x]);obtain⟨n1,n2,n3⟩:=UM hx (p++ [x]);have hzl:(p++ [x]).length≤xs.length:=by
   have h1: ∀y∈(p++ [x]).map Fin.val,y<xs.length:=fun y hy=>by obtain⟨z,_,rfl⟩:=List.mem_map.1 hy;exact z.isLt
   rw[hSp] at h1;have:=h1 ((p++ [x]).length-1) (List.mem_range.2 (by simp));omega
  rw[←hrd] at hfn n1 n2 n3;obtain⟨sv,hv,rv,av,es,hR,hP⟩:=hrr;obtain⟨s,hs⟩: ∃s,s=qa RS.zero xs:=⟨_,rfl⟩;rw[←hs] at hfn n1 n2 n3 hR hP;have Hs:Hid _:=hs.symm;have m1:s.seen.length≤600:=by omega
  have m2:s.homes.length≤600:=by omega
  have m3:s.revs.length≤15600:=by omega
  clear hs hrd n1 n2 n3 hzl hSp hal htk;have hDl:=(gLt hK');have hRl:=(gLt hR);have hee: ∀e∈es,e.2.2.length=64:=fun e he=>by
   have hm:(e.1,e.2.2)∈s.homes:=by rw[←hP.hs];exact List.mem_map.2 ⟨e,he,rfl⟩
   exact(hfn.hl _ hm).1
  have Hee:Hid (∀e∈es,e.2.2.length=64∧Byt e.2.2):=fun e he=>by
   have hm:(e.1,e.2.2)∈s.homes:=by rw[←hP.hs];exact List.mem_map.2 ⟨e,he,rfl⟩
   exact hfn.hl _ hm
  have hcnt:Z3 s.txn≤1048576:=by
   unfold Z3 RS.txn;simp only;rw[E1 _ (fun p hp=>(hfn.hl p hp).1)];omega
  have hHv: ∀ {W:World} {hv':Value},qj W (w.heap.size+1) hv' es→qF W w.heap.size W.heap.size hv' s.homes:=fun{W hv'} ho=>by
   have:=ho.viewJ (fun e he=>by rw[hee e he];omega);rw[hP.hs] at this;exact this.mono (by omega) (Nat.le_refl _)
  have hRv: ∀ {W:World} {rv':Value},zP W (w.heap.size+1) 2 rv' s.revs→zr W w.heap.size W.heap.size .i64 rv' s.revs:=fun{W rv'} ho=>
   (ho.view (by omega) (fun g hg=>(ho.lt g hg).2)).mono (by omega) (Nat.le_refl _)
  have hN:=Yb V (t:=s.txn) (bs:=s.seen) (lo:=w.heap.size) (hi:=V.heap.size) (a:= .agg #[za s.seq,hv,rv]) hcnt (Nat.le_refl _) (fun x hx=>(hfn.hl x hx).2) (HGv.out V hlo).2 ⟨hv,rv,rfl,hHv hP.homes,hRv hP.revs⟩ hP.seen (fun b hb=>(hfn.sl b hb).1) (fun b hb=>(hfn.sl b hb).2);obtain⟨y0,y1,y2,y3,_,_⟩:=qy hR;obtain⟨sa,sn,sc,rfl⟩:=zx hP.seen;obtain rfl:sn=s.seen.length:=by
   rcases hP.seen.2 with⟨e,h0⟩|⟨g,cap,cur,e,_⟩
   ·cases e;exact h0.symm
   ·simp only[Value.slice.injEq] at e;exact e.2.1
  obtain⟨ha,hn,hc,rfl⟩:=hP.homes.slice;obtain⟨ra,rc,rfl⟩:=hP.revs.shape;have HP:Hid _:=hP;have HR:Hid _:=hR;have HK:Hid _:=hK';have Hrs:Hid _:=hrs;have hDB:=hD;clear hHv hRv hP hR hK' hrs hfn hcnt hee hseq hD;gi_wp2;refine⟨trivial,rfl,(callsIn_wide.2 hN).mono ?_⟩;rintro e V2 ⟨rfl,c2⟩;have s2:=c2.size;have HP2:Hid _:=HP.out.chg c2 (by omega);have HR2:Hid _:=(c2.block _ (by omega) (by omega)).trans HR.out
  have HK2:Hid _:=(c2.block _ (by omega) (by omega)).trans HK.out;have Hrs2:Hid _:=(c2.block _ (by omega) (by omega)).trans Hrs.out;have Hlo2:Hid _:=hlo.trans (jT.chg c2 (by omega));clear HP HR HK Hrs c2 hN y0 y1 y2 y3;by_cases hT:TL s.txn=s.seen
  case neg=>
   have HT:Hid _:=hT;rw[decide_eq_false hT];obtain⟨⟨q0,q1,q2⟩,f0,f1,f2⟩:=tri Hrs2.out;clear hT;gi_wp2;have r1:(V2.setCell (zd w.heap.size) (za 0)).heap[w.heap.size]?=some (.cells #[za 0,zc,zc] 35 (0,0)):=js Hrs2.out _;have r2:((V2.setCell (zd w.heap.size) (za 0)).setCell ⟨w.heap.size,1,none⟩ (zc)).heap[w.heap.size]?=some (.cells #[za 0,zc,zc] 35 (0,0)):=js r1 _;have r3:(((V2.setCell (zd w.heap.size) (za 0)).setCell ⟨w.heap.size,1,none⟩ (zc)).setCell ⟨w.heap.size,2,none⟩ (zc)).heap[w.heap.size]?=some (.cells (List.toArray [za 0,zc,zc]) 35 (0,0)):=js r2 _
   have c3:Chg w.heap.size (w.heap.size+1) V2 (((V2.setCell (zd w.heap.size) (za 0)).setCell ⟨w.heap.size,1,none⟩ (zc)).setCell ⟨w.heap.size,2,none⟩ (zc)):=
    (((Chg.refl _ _ V2).setCell (p:=(zd w.heap.size)) (Or.inl ⟨Nat.le_refl _,Nat.lt_succ_self _⟩) _).setCell (p:=⟨w.heap.size,1,none⟩) (Or.inl ⟨Nat.le_refl _,Nat.lt_succ_self _⟩) _).setCell (p:=⟨w.heap.size,2,none⟩) (Or.inl ⟨Nat.le_refl _,Nat.lt_succ_self _⟩) _
   generalize ((V2.setCell (zd w.heap.size) (za 0)).setCell ⟨w.heap.size,1,none⟩ (zc)).setCell ⟨w.heap.size,2,none⟩ (zc)=V3 at*;have hK3:=(c3.block D (by omega) (by omega)).trans HK2.out;have hl1: ∀o,(loadVar 35 (zd w.heap.size)).run Tryz.prog (V3.putObj D o)= .ok (.agg (List.toArray [za 0,zc,zc])) (V3.putObj D o):=fun o=>run_loadVar_mid _ _ _ _ [za 0,zc,zc] _ (zj ((World.putObj_heap_other (by omega)).trans r3)) Tryz.underlying35 rfl (by kernel_rfl)
   refine⟨by simp,.inl ⟨_,_,rfl,run_takeDeferred hK3,?_⟩⟩;refine⟨_,jB Tryz.results68 rfl rfl (hl1 _),zc,zc,?_,Or.inr ⟨by rw[Hs.out];exact HT.out,rfl⟩⟩;exact(Hlo2.out.toChg.step c3 (by omega)).step (l:=D) (r:=D+1) ⟨rfl,rfl,rfl,by simp,fun k _ ho=>World.putObj_heap_other (by omega)⟩ (by omega)
  have HT:Hid _:=hT;rw[decide_eq_true hT];clear hT;have hmx:Tryz.prog.follows .mixedOrders=true:=by kernel_rfl
  gi_wp2;have HS:Hid ((fun w':World=>w'.heap[w.heap.size+1]?=some (rdO (.slice sa s.seen.length sc) s.seq (.slice ha hn hc) (.slice ra s.revs.length rc) av)) V2.drew):=HR2.out;refine ZL (fun w':World=>w'.heap[w.heap.size+1]?=some (rdO (.slice sa s.seen.length sc) s.seq (.slice ha hn hc) (.slice ra s.revs.length rc) av)) hmx ?_;have c3:Chg 0 0 V2 V2.drew:=Chg.drew (Chg.refl _ _ V2);have Hrs3:Hid (V2.drew.heap[w.heap.size]?=some (.cells (List.toArray [za 0,zc,zc]) 35 (0,0))):=Hrs2.out
  have HK3:Hid (V2.drew.heap[D]?=some (.deferred (some []))):=HK2.out;have HP3:Hid _:=HP2.out.chg c3 (by omega);have Hlo3:Hid _:=Hlo2.out.trans (jT.chg c3 (by omega));have s3:V2.heap.size≤V2.drew.heap.size:=Nat.le_refl _;clear c3 Hrs2 HK2 HP2 Hlo2 HR2;generalize V2.drew=X at*;refine vTk 0 (.pointer (some ⟨w.heap.size+1,1,none⟩)) rfl (fun w' hw'=>by go_simp) HS.out ?_;go_simp;refine vTk 1 (.agg #[za s.seq,.slice ha hn hc,.slice ra s.revs.length rc]) rfl (fun w' hw'=>by obtain⟨_,h1,h2,h3,_⟩:=qy hw';go_simp) HS.out ?_
  go_simp;refine vTk 2 (.pointer (some (zd (w.heap.size+1)))) rfl (fun w' hw'=>by go_simp) HS.out ?_;go_simp;refine vTk 3 (.slice sa s.seen.length sc) rfl (fun w' hw'=>by obtain⟨h1,_⟩:=qy hw';go_simp) HS.out ?_;go_simp;refine vTk 4 (za (s.seen.length:Int)) rfl (fun w' hw'=>by go_simp) HS.out ?_;go_simp;refine j4 5 rfl (by kernel_rfl) rfl (by kernel_rfl) ?_;refine wp_store_row 35 (.tmp 2) (.tmp 21) rfl rfl w.heap.size rfl [za s.seq,.slice ha hn hc,.slice ra s.revs.length rc] [za 0,zc,zc] 35 rfl Hrs3.out rfl (by kernel_rfl) (by simp[Value.oneCell']) ?_
  intro X4 r4 c4;have s4:=c4.size;have HS4:Hid _:=(c4.block _ (by omega) (by omega)).trans HS.out;have HK4:Hid (X4.heap[D]?=some (.deferred (some []))):=(c4.block D (by omega) (by omega)).trans HK3.out;have HP4:Hid _:=HP3.out.chg c4 (by omega);have Hch4:Hid _:=Hlo3.out.toChg.step c4 (by omega);have Hr4:Hid _:=r4;refine⟨HS4.out,?_⟩;clear r4 c4 HP3 Hlo3 HK3 Hrs3;go_simp;refine j4 6 rfl (by kernel_rfl) rfl (by kernel_rfl) ?_
  refine qA (v:=za (s.seen.length:Int)) (w':=X4) (by first|kernel_rfl|go_simp) ⟨HS4.out,?_⟩;go_simp;refine Zo (by kernel_rfl) ?_;refine jh.mk ?_;gi_wp2;have hl1: ∀o,(loadVar 35 (zd w.heap.size)).run Tryz.prog (X4.putObj D o)= .ok (.agg (List.toArray [za s.seq,.slice ha hn hc,.slice ra s.revs.length rc])) (X4.putObj D o):=fun o=>run_loadVar_mid _ _ _ _ [za s.seq,.slice ha hn hc,.slice ra s.revs.length rc] _ (zj ((World.putObj_heap_other (by omega)).trans Hr4.out)) Tryz.underlying35 rfl (by kernel_rfl)
  refine⟨by simp,.inl ⟨_,_,rfl,run_takeDeferred HK4.out,?_⟩⟩;have hPf:=HP4.out.keepC (w':=X4.putObj D (.deferred none)) (fun j cur t _ hh=>(World.putObj_heap_other (fun e=>by rw[e,HK4.out] at hh;cases hh)).trans hh);refine⟨_,jB Tryz.results68 rfl rfl (hl1 _),.slice ha hn hc,.slice ra s.revs.length rc,?_,Or.inl ⟨by rw[Hs.out];exact HT.out,by rw[Hs.out];rfl,by rw[Hs.out];exact qE.low ⟨es,hPf.homes,hPf.hs,Hee.out,hPf.revs,by show s.revs.length≤20000;omega,by rw[hPf.hlen];omega⟩ (by omega)⟩⟩
  exact Hch4.out.step (l:=D) (r:=D+1) ⟨rfl,rfl,rfl,by simp,fun k _ ho=>World.putObj_heap_other (by omega)⟩ (by omega)
end Go.Proofs.YtacjklochmelfaaGreatDoor
