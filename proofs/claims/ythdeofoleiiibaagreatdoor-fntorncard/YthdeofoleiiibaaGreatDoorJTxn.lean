import Derived.Test.YthdeofoleiiibaaGreatDoorLogDisk
namespace Go.Proofs.YthdeofoleiiibaaGreatDoor
open Go.RowKit Go.Shelf
set_option maxRecDepth 100000
set_option maxHeartbeats 16000000
variable {w w':World}{base:Nat}{hv rv:Value}
attribute [local go_sem] oq
theorem Dev.keep {p:Nat}{d:Dsk}(h:Dev w base p d)(k: ∀i,i<w.heap.size→w'.heap[i]?=w.heap[i]?):Dev w' base p d:=by
 obtain⟨j,u,f,s,l,m,e⟩:=h;have K: ∀ {b:Nat} {o:Obj},w.heap[b]?=some o→w'.heap[b]?=some o:=fun a=>(k _ (zE a)).trans a;have R: ∀ {t:TypeId} {sz:Nat} {v:Value} {n:Nat} {xs:List Value},w.ownsRow base t sz v n xs→w'.ownsRow base t sz v n xs:=by
  intro t sz v n xs h;obtain⟨h1,h2⟩:=h;refine⟨h1,?_⟩;rcases h2 with h2|⟨g,cap,c,f,q,a,r⟩
  ·exact Or.inl h2
  ·exact Or.inr ⟨g,cap,c,f,q,K a,r⟩
 exact⟨j,u,f,s,K l,R m,R e⟩
theorem dY {d:Dsk}(h:d.pN= [])(a:Nat):see d a=blk d.dR a:=by unfold see blk;rw[h];rfl
def lX (xs:List FB) (i:Fin xs.length):Array Value:= #[za (i.val:Int),.agg ((xs.getD i.val (.raw [])).bs.map (Value.int .u8)).toArray]
def QY (b:Nat) (V V':World):Prop:= ∀k,k<b→V'.heap[k]?=V.heap[k]?
theorem UO (w:World)(p:Nat)(a b c:Int):
  Calls Tryz.prog 83 #[zh p,za a,za b,za c] w fun e w'=>
   e= .returned (.func (.func 131) #[] #[.pointer (some ⟨w.heap.size+1+1,0,none⟩),zh w.heap.size,zh (w.heap.size+1),zh (w.heap.size+3)])∧
   w'=(((w.alloc (zi #[zh p] 59)).alloc (zi #[za a] 2)).alloc (zi #[za b] 2)).alloc (zi #[za c] 2):=by
 go_enter Tryz.func83,Tryz.ntmps83;go_wp2;go_ret;exact⟨rfl,rfl⟩
theorem kW (B p base n sz a k:Nat)(d:Dsk)(F:Nat→FB)(st sq:Int)(w:World)(Y:Dev w base p d)(Z:qF d n sz F st sq)(ag:a<sz)(hk:k≤sz)
  (b0:w.cell? (zd B)=some (zh p)) (b1:w.cell? (zd (B+1))=some (za ((a:Int)+1))) (b2:w.cell? ⟨B+1+1,0,none⟩=some (za k)) (b3:w.cell? (zd (B+3))=some (za sz)):
  ez Tryz.prog 131 #[.pointer (some ⟨B+1+1,0,none⟩),zh B,zh (B+1),zh (B+3)] (lX (win F sz a k)) (fun _=>QY w.heap.size)
   (fun xs=>xs.map Fin.val=List.range (win F sz a k).length) (fun pre=>pre.map Fin.val=List.range pre.length) 600 w:=fun l J Jx W hW hJ ai hY h0=>by
 have HW:Hid (∀V,QY w.heap.size W V→(Dev V base p d∧V.cell? (zd B)=some (zh p))∧V.cell? (zd (B+1))=some (za ((a:Int)+1))∧V.cell? ⟨B+1+1,0,none⟩=some (za k)∧V.cell? (zd (B+3))=some (za sz)):=fun V hV=>by
  have kk: ∀i,i<w.heap.size→V.heap[i]?=w.heap[i]?:=fun i hi=>(hV i hi).trans (hW.block i hi)
  have O: ∀ {b o:Nat} {x:Value},w.cell? ⟨b,o,none⟩=some x→V.cell? ⟨b,o,none⟩=some x:=fun hc=>(nQ (kk _ (zV hc))).trans hc
  exact⟨⟨Y.keep kk,O b0⟩,O b1,O b2,O b3⟩
 have E:=h0 W (pg _ _)
 have af:=Y.lt
 have ac:Tryz.prog.follows .mixedOrders=true:=zl
 have ae:=Z.big
 have aj:=hW.size
 have am:=ji F sz a k
 have R:Hid (qF d n sz F st sq):=Z
 clear h0 hW b0 b1 b2 b3 Y Z
 obtain⟨⟨_,e0⟩,U,e2,e3⟩:=HW.out W (fun _ _=>rfl)
 have u:Hid (∀V,QY w.heap.size W V→(Dev V base p d∧V.cell? (zd B)=some (zh p))∧V.cell? (zd (B+1))=some (za ((a:Int)+1))∧V.cell? ⟨B+1+1,0,none⟩=some (za k)∧V.cell? (zd (B+3))=some (za sz)):=HW.out
 refine callsIn_of_wp Tryz.func131 rfl trivial ?_ rfl
 simp only[Tryz.ntmps131,pA,m7,nH,Nat.reduceAdd,Nat.reduceSub,pL,pM,pO,pP,nG,oD]
 gi_wp2
 gi_loopw [8] (fun x wr=> ∃(i:Nat) (pre:List (Fin (win F sz a k).length)),x=za i∧i≤k∧pre.map Fin.val=List.range i∧W.heap.size≤wr.heap.size∧QY w.heap.size W wr∧J pre wr)
  (fun x _=>k-(intOf x).toNat)
 case atStart=>exact⟨0,[],rfl,mX _,rfl,mP _,fun _ _=>rfl,E⟩
 case round=>
  clear E e0 U e2 e3
  obtain⟨i,pre,rfl,hi,g,al,ab,z⟩:=hrel
  have t:pre.length=i:=by have:=nI List.length g;simpa using this
  by_cases G:i<k
  ·have h:Hid (pre.map Fin.val=List.range i):=g
   have c:i<(win F sz a k).length:=zk
   have U:(i:Int)<(k:Int):=zk
   clear g
   gi_wp2
   have I:qi sz ((a:Int)+1) (i:Int)=(((a+i) % sz:Nat):Int)+1:=by
    unfold qi;rw[show(a:Int)+1-1+(i:Int)=((a+i:Nat):Int) by omega];rfl
   have hm:=nF (a+i) (show 0<sz by omega)
   have A:=fun V=>j6 V (sz:Int) ((a:Int)+1) (i:Int)
   rw[I] at A
   have aa:d.dR.length/64=n:=by rw[R.out.dR];omega
   have v:see d (2+(a+i) % sz)=((win F sz a k).getD i (.raw [])).bs:=by
    rw[dY R.out.pN,R.out.at' _ hm];unfold win;simp[G]
   have C:Hid (∀V,Dev V base p d→p<V.heap.size→Calls Tryz.prog 80 #[zh p,za (2+(((a+i) % sz:Nat):Int))] V fun e w'=>e= .returned (.agg (((win F sz a k).getD i (.raw [])).bs.map (Value.int .u8)).toArray)∧zr 0 0 V w'):=fun V hV hp=>by
    have:=V9 V (2+(a+i) % sz) hV zk hp;rw[v,show((2+(a+i) % sz:Nat):Int)=2+(((a+i) % sz:Nat):Int) by omega] at this;exact this
   have S:Hid (∀V,W.heap.size≤V.heap.size→J pre V→Go.Proofs.YthdeofoleiiibaaGreatDoor.Yields Tryz.prog l #[za i,.agg (((win F sz a k).getD i (.raw [])).bs.map (Value.int .u8)).toArray] V fun e L=>(V.heap.size≤L.heap.size∧QY w.heap.size V L)∧((e= .returned (.bool true)∧J (pre++ [⟨i,c⟩]) L)∨(e= .returned (.bool false)∧Jx (pre++ [⟨i,c⟩]) L))):=fun V h1 h2=>hY pre ⟨i,c⟩ V h1 h2 zk
   obtain⟨m,H⟩: ∃m:Nat,m=(a+i) % sz:=⟨_,rfl⟩
   rw[←H] at A C hm
   generalize ((win F sz a k).getD i (.raw [])).bs.map (Value.int .u8)=cs at*
   have Q:Hid (J pre wr):=z
   have HS:Hid ((fun w':World=>QY w.heap.size W w') wr.drew):=ab
   have cd:zr 0 0 wr wr.drew:=zr.drew (zr.refl _ _ wr)
   have ak:wr.drew.heap.size=wr.heap.size:=rfl
   have ah:IntKind.i64.wrap (1+((m:Int)+1))=2+(m:Int):=by rw[mS];omega
   clear H v hY aa I z
   refine QA (fun w':World=>QY w.heap.size W w') ac ?_
   generalize wr.drew=X at*
   refine vTk 0 (.func (.yield l) #[] #[]) rfl (fun w' f=>zm) HS.out ?_
   go_simp
   refine vTk 1 (za i) rfl (fun w' f=>zm) HS.out ?_
   go_simp
   refine vTk 2 (zh p) rfl (fun w' f=>by have h4:=(u.out w' f).1.2;go_simp) HS.out ?_
   go_simp
   refine vTk 3 (za ((a:Int)+1)) rfl (fun w' f=>by have h4:=(u.out w' f).2.1;go_simp) HS.out ?_
   go_simp
   refine vTk 4 (za i) rfl (fun w' f=>zm) HS.out ?_
   go_simp
   refine vTk 5 (za sz) rfl (fun w' f=>by have h4:=(u.out w' f).2.2.2;go_simp) HS.out ?_
   go_simp
   refine ZN 6 rfl zl rfl zl ?_
   refine zv 34 #[za ((a:Int)+1),za i,za sz] zq (A X) ?_
   rintro e X' ⟨rfl,rfl⟩
   refine⟨_,rfl,HS.out,?_⟩
   go_simp
   refine vTk 7 (za (2+(m:Int))) rfl (fun w' f=>zm) HS.out ?_
   go_simp
   refine ZN 8 rfl zl rfl zl ?_
   refine zv 80 #[zh p,za (2+(m:Int))] zq (C.out _ (u.out _ HS.out).1.1 zk) ?_
   rintro e T ⟨rfl,N⟩
   have s2:=N.size
   have D:Hid ((fun w':World=>QY w.heap.size W w') T):=fun j P=>(N.bk j).trans (HS.out j P)
   refine⟨_,rfl,D.out,?_⟩
   go_simp
   obtain⟨fn,tmps,assign,body,hy,hR⟩:=S.out T zk (hJ pre wr T none Q.out (jB (cd.trans N)) (fun r e=>by cases e))
   refine KF 9 rfl zl rfl zl zm hR ?_
   rintro e M ⟨⟨m1,m2⟩,K⟩
   have q:Hid ((fun w':World=>QY w.heap.size W w') M):=fun j P=>(m2 j P).trans (D.out j P)
   have ad:W.heap.size≤M.heap.size:=zk
   clear hy hR m1 m2 N cd
   rcases K with⟨rfl,s⟩|⟨rfl,s⟩
   ·refine⟨_,rfl,q.out,?_⟩;go_simp;refine vTk 10 (.bool false) rfl (fun w' f=>zm) q.out ?_;go_simp;refine Qd zl ?_;refine jV.mk ?_;have y:Hid (J (pre++ [⟨i,c⟩]) M):=s;clear s;gi_wp2;go_roundw
    case rel=>exact⟨i+1,pre++ [⟨i,c⟩],by congr 1,G,by rw[m6,h.out,pQ];rfl,ad,q.out,y.out⟩
    case measure=>simp[intOf];omega
   ·refine⟨_,rfl,q.out,?_⟩;go_simp;refine vTk 10 (.bool true) rfl (fun w' f=>zm) q.out ?_;go_simp;refine Qd zl ?_;refine jV.mk ?_;have y:Hid (Jx (pre++ [⟨i,c⟩]) M):=s;clear s;gi_wp2;refine mT (ph rfl _ _ _) rfl ?_;refine⟨⟨_,rfl⟩,.inr ⟨pre++ [⟨i,c⟩],?_,y.out⟩⟩;rw[m6,h.out,mL,t];exact List.range_succ.symm
  ·obtain rfl:i=k:=zk;have h:Hid (pre.map Fin.val=List.range i):=g;have U: ¬((i:Int)<(i:Int)):=zk;clear hY g t;gi_wp2;go_end0;exact⟨⟨_,rfl⟩,.inl ⟨pre,h.out,z⟩⟩
attribute [local go_sem] oq
structure ZF (base:Nat)(w w':World):Prop where
 os:w'.os=w.os
 tape:w'.tape=w.tape
 output:w'.output=w.output
 size:w.heap.size≤w'.heap.size
 low: ∀k,k<base→w'.heap[k]?=w.heap[k]?
theorem jj.lo (h:jj base w w'):ZF base w w':=⟨h.os,h.tape,h.output,h.size,h.low⟩
theorem ZF.trans {a b c:World}(h:ZF base a b)(k:ZF base b c):ZF base a c:=
 ⟨k.os.trans h.os,k.tape.trans h.tape,k.output.trans h.output,nz h.size k.size,fun i hi=>(k.low i hi).trans (h.low i hi)⟩
theorem ZF.chg (c:zr 0 0 w w')(a:base≤w.heap.size:=by omega):ZF base w w':=(jj.chg c a).lo
theorem ZF.put {l:Nat}(o:Obj)(b:base≤l:=by omega):ZF base w (w.putObj l o):=
 ⟨rfl,rfl,rfl,zn,fun k a=>World.putObj_heap_other zk⟩
theorem ZF.grown {row:Option Nat}(h:w.grownBy w' row)(a: ∀r,row=some r→base≤r)(b:base≤w.heap.size):ZF base w w':=
 ⟨h.os,h.tape,h.output,h.size,fun k c=>h.block k zk (fun e=>by have:=a k e.symm;omega)⟩
theorem ZF.toChg (h:ZF w.heap.size w w'):zr 0 0 w w':=⟨h.os,h.tape,h.output,h.size,fun k a _=>h.low k a⟩
theorem XV.keep {R:Nat}{s:RS}(h:XV w base R s)(k: ∀(j:Nat) (a:Array Value) (t:TypeId),w.heap[j]?=some (zi a t)→w'.heap[j]?=some (zi a t)):XV w' base R s:=by
 obtain⟨l,g,i,c,d,e,b⟩:=h;have K: ∀ {t:TypeId},qh t base w w':=fun j a _ f=>k j a _ f;exact⟨l,g,i,c,d,k _ _ _ e,zR b.seen K,b.homes.keep K K,b.hs,zR b.rV K,b.aw.keep K⟩
def stP (xs:List FB) (pre:List (Fin xs.length)):RS:=(pre.map fun i=>xs.getD i.val (.raw [])).foldl (fun s x=>(zJ s x).1) RS.zero
theorem aG (xs:List FB)(pre:List (Fin xs.length))(x:Fin xs.length):stP xs (pre++ [x])=(zJ (stP xs pre) (xs.getD x.val (.raw []))).1:=by unfold stP;simp
theorem gi (s:RS)(x:FB)(h:x.ok):(zJ s x).1.seen.length=s.seen.length+1∧(zJ s x).1.homes.length≤s.homes.length+1∧(zJ s x).1.rV.length≤s.rV.length+26:=by
 unfold zJ;split
 ·split<;>simp
 ·cases x using FB.el with
  |rev q rs=>have:rs.length≤26:=h.2.2.2;simp;omega
  |des q ts=>simp
  |com q c m=>simp
  |raw b=>simp
theorem Ys {xs:List FB}(h: ∀x∈xs,x.ok)(i:Fin xs.length):(xs.getD i.val (.raw [])).ok:=by
 have:=i.isLt;rw[mV,mZ this];exact h _ (nj this)
theorem ig: ∀(ys:List FB) (s:RS),(∀x∈ys,x.ok)→(ys.foldl (fun s x=>(zJ s x).1) s).seen.length=s.seen.length+ys.length∧(ys.foldl (fun s x=>(zJ s x).1) s).homes.length≤s.homes.length+ys.length∧(ys.foldl (fun s x=>(zJ s x).1) s).rV.length≤s.rV.length+26*ys.length:=by
 intro ys
 induction ys with
 |nil=>intro s _;simp
 |cons x r ih=>
  intro s h;have h1:=gi s x (h x zn);have h2:=ih (zJ s x).1 (fun y a=>h y (by simp[a]));rw[rN,m7];omega
theorem NA {xs:List FB}(h: ∀x∈xs,x.ok)(pre:List (Fin xs.length)):(stP xs pre).seen.length=pre.length∧(stP xs pre).homes.length≤pre.length∧(stP xs pre).rV.length≤26*pre.length:=by
 have:=ig (pre.map fun i=>xs.getD i.val (.raw [])) RS.zero (fun x a=>by obtain⟨i,_,rfl⟩:=m9.1 a;exact Ys h i);rw[mO] at this;unfold stP;have z:RS.zero.seen.length=0∧RS.zero.homes.length=0∧RS.zero.rV.length=0:=⟨rfl,rfl,rfl⟩;omega
theorem V8: ∀(ys a:List FB) (s:RS),(∀j,j<ys.length→(zJ ((ys.take j).foldl (fun s x=>(zJ s x).1) s) (ys.getD j (.raw []))).2=true)→zT s (ys++a)=zT (ys.foldl (fun s x=>(zJ s x).1) s) a:=by
 intro ys
 induction ys with
 |nil=>intro a s _;rfl
 |cons y r ih=>
  intro a s h;have h0:(zJ s y).2=true:=by have:=h 0 zn;simpa using this
  rw[oD];show(if(zJ s y).2=true then zT (zJ s y).1 (r++a) else _)=_;rw[mM h0,ih a (zJ s y).1 (fun j b=>?_)]
  ·rfl
  ·have:=h (j+1) (by simpa using b);simpa using this
def fP (xs:List FB) (pre:List (Fin xs.length)):List FB:=pre.map fun i=>xs.getD i.val (.raw [])
def aZ (ys:List FB):Prop:= ∀j,j<ys.length→(zJ ((ys.take j).foldl (fun s x=>(zJ s x).1) RS.zero) (ys.getD j (.raw []))).2=true
theorem aZ.snoc {ys:List FB}{y:FB}(h:aZ ys)(c:(zJ (ys.foldl (fun s x=>(zJ s x).1) RS.zero) y).2=true):aZ (ys++ [y]):=by
 intro j b;rw[mL,nJ] at b;by_cases a:j<ys.length
 ·rw[oG zk];have:=h j a;simpa [nZ a] using this
 ·obtain rfl:j=ys.length:=zk;rw[oG nlR,nV];simpa using c
theorem gY {xs:List FB}{pre:List (Fin xs.length)}{n:Nat}(a:n≤xs.length)(h:pre.map Fin.val=List.range n):fP xs pre=xs.take n:=by
 have e:fP xs pre=(pre.map Fin.val).map fun i=>xs.getD i (.raw []):=by unfold fP;rw[oR];rfl
 rw[e,h];apply p8
 ·simp;omega
 ·intro i h1 h2;simp at h1 h2⊢;rw[mZ zk];rfl
theorem fH {xs:List FB}{pre:List (Fin xs.length)}(h:pre.map Fin.val=List.range xs.length)(a:aZ (fP xs pre)):zT RS.zero xs=stP xs pre:=by
 have e:=gY nlR h;rw[nV] at e;have h1:=V8 xs [] RS.zero (by rw[e] at a;exact a);rw[nw] at h1;rw[h1];show xs.foldl _ RS.zero=(fP xs pre).foldl _ RS.zero;rw[e]
theorem fI {xs:List FB}{pre:List (Fin xs.length)}{x:Fin xs.length}(h:(pre++ [x]).map Fin.val=List.range (pre++ [x]).length)(d:aZ (fP xs pre))(g:(zJ (stP xs pre) (xs.getD x.val (.raw []))).2=false):zT RS.zero xs=stP xs (pre++ [x]):=by
 rw[m6,mL,nJ,pQ] at h;have b:=List.append_inj h zn;have a:x.val=pre.length:=by have:=b.2;simpa using this
 have f:=x.isLt;have e:=gY zk b.1;have c:xs=fP xs pre++(xs.getD x.val (.raw [])::xs.drop (pre.length+1)):=by
  rw[e,a,mV,mZ zk];simp
 have h1:=V8 (fP xs pre) (xs.getD x.val (.raw [])::xs.drop (pre.length+1)) RS.zero d;rw[←c] at h1;rw[h1,aG];show(if(zJ (stP xs pre) (xs.getD x.val (.raw []))).2=true then _ else(zJ (stP xs pre) (xs.getD x.val (.raw []))).1)=_;rw[g,mN zn]
theorem qD.viewJ {v:Value}{es:List Hv}(h:qD w base v es)(c: ∀e∈es,e.2.2.length≤64):qW w base w.heap.size v (es.map fun e=>(e.1,e.2.2)):=by
 have k:(es.map fun e=>(e.1,e.2.2)).length=es.length:=zn;have f:=h.row;rcases h.row.2 with⟨e,h0⟩|⟨g,cap,l,e,d,o,n,m,_⟩
 ·have:es= []:=nT h0;subst this;exact⟨none,0,by rw[e];rfl,zn,zn,Or.inl rfl⟩
 ·subst e;unfold maxLen at m;refine⟨_,cap,by rw[k],zk,zk,?_⟩;refine Or.inr ⟨g,0,rfl,d,(f.lt g rfl).2,fun i hi=>?_⟩;rw[k] at hi;obtain⟨a,b⟩:=QQ.cells f i hi;have e:(es.map fun e=>(e.1,e.2.2)).getD i (0,[])=(es[i].1,es[i].2.2):=by simp[hi]
  rw[e];have j:=h.data es[i] (nj hi);exact⟨es[i].2.1,by rw[ni];exact a,by rw[ni];exact b,j.view (by have:=c es[i] (nj hi);omega) (fun g d=>(j.lt g d).2)⟩
theorem Pts.keepC {s:RS}{sv av:Value}{es:List Hv}(b:Pts w base s sv hv rv av es)(k: ∀(j:Nat) (a:Array Value) (t:TypeId),base≤j→w.heap[j]?=some (zi a t)→w'.heap[j]?=some (zi a t)):Pts w' base s sv hv rv av es:=by
 have K: ∀ {t:TypeId},qh t base w w':=fun j a d c=>k j a _ d c;exact⟨zR b.seen K,b.homes.keep K K,b.hs,zR b.rV K,b.aw.keep K⟩
structure JY (s:RS):Prop where
 sl: ∀b∈s.seen,b.length=64∧Byt b
 hl: ∀h∈s.homes,h.2.length=64∧Byt h.2
theorem di {xs:List Int}(h:Byt xs)(e:Bool):Byt (jA xs e):=by
 unfold jA;split
 ·exact Byt.app (fun x a=>by unfold mg at a;simp at a;omega) (h.drop 4)
 ·exact h
theorem JY.take {s:RS}(h:JY s){x:FB}(a:x.ok):JY (zJ s x).1:=by
 have h1: ∀b∈s.seen++ [x.bs],b.length=64∧Byt b:=fun b hb=>by
  rcases nu.1 hb with hb|hb
  ·exact h.sl b hb
  ·rw[nx.1 hb];exact⟨FB.len a,FB.byt a⟩
 unfold zJ;split
 ·split
  ·refine⟨h1,fun y hy=>?_⟩;rcases nu.1 hy with hy|hy
   ·exact h.hl y hy
   ·rw[nx.1 hy];exact⟨XT (FB.len a) _,di (FB.byt a) _⟩
  ·exact⟨h1,h.hl⟩
 ·cases x using FB.el with
  |rev q rs=>exact⟨h1,h.hl⟩
  |des q ts=>exact⟨h1,h.hl⟩
  |com q c m=>exact⟨h1,h.hl⟩
  |raw b=>exact⟨h1,h.hl⟩
theorem JY.fold: ∀(ys:List FB) (s:RS),JY s→(∀x∈ys,x.ok)→JY (ys.foldl (fun s x=>(zJ s x).1) s):=by
 intro ys
 induction ys with
 |nil=>intro s h _;exact h
 |cons y r ih=>intro s h a;exact ih _ (h.take (a y zn)) (fun x b=>a x (by simp[b]))
theorem JY.stP {xs:List FB}(h: ∀x∈xs,x.ok)(pre:List (Fin xs.length)):JY (Go.Proofs.YthdeofoleiiibaaGreatDoor.stP xs pre):=
 JY.fold _ _ ⟨by simp[RS.zero],by simp[RS.zero]⟩ (fun x a=>by obtain⟨i,_,rfl⟩:=m9.1 a;exact Ys h i)
theorem bA: ∀(ps:List Wr),(∀p∈ps,p.2.length=64)→cnt ps=65*ps.length:=by
 intro ps
 induction ps with
 |nil=>intro _;rfl
 |cons p r ih=>
  intro h;have:=ih (fun q a=>h q (by simp[a]));unfold cnt at*;rw[nR,List.sum_cons,this,h p zn,m7];omega
def qB (w:World) (base:Nat) (hv rv:Value) (t:Tx):Prop:= ∃es:List Hv,qD w base hv es∧es.map (fun e=>(e.1,e.2.2))=t.homes∧(∀e∈es,e.2.2.length=64∧Byt e.2.2)∧zM w base 2 rv t.rV∧t.rV.length≤20000∧es.length≤10000
theorem qB.view {t:Tx}(h:qB w base hv rv t):qW w base w.heap.size hv t.homes∧zC w base w.heap.size .i64 rv t.rV∧(∀x∈t.homes,Byt x.2)∧Qa t≤1000000:=by
 obtain⟨j,h1,h2,h3,b,k,l⟩:=h;have c:=h1.viewJ (fun e a=>by rw[(h3 e a).1];omega);rw[h2] at c;refine⟨c,b.view zk (fun g i=>(b.lt g i).2),fun x f=>?_,?_⟩
 ·rw[←h2] at f;obtain⟨e,a,rfl⟩:=m9.1 f;exact(h3 e a).2
 ·unfold Qa;rw[bA _ (fun p d=>by rw[←h2] at d;obtain⟨e,a,rfl⟩:=m9.1 d;exact(h3 e a).1),←h2,mO];omega
theorem qB.keep {t:Tx}(h:qB w base hv rv t)(k: ∀(j:Nat) (a:Array Value) (T:TypeId),base≤j→T≠35→w.heap[j]?=some (zi a T)→w'.heap[j]?=some (zi a T)):qB w' base hv rv t:=by
 obtain⟨d,h1,h2,h3,e,f⟩:=h;exact⟨d,h1.keep (fun j a c b=>k j a _ c zp b) (fun j a c b=>k j a _ c zp b),h2,h3,zR e (fun j a c b=>k j a _ c zp b),f⟩
theorem qB.low {base':Nat}{t:Tx}(h:qB w base hv rv t)(a:base'≤base:=by omega):qB w base' hv rv t:=by
 obtain⟨b,h1,h2,h3,c,d⟩:=h;exact⟨b,h1.low a,h2,h3,c.lowI a,d⟩
def mo (w w':World) (s:RS) (e:Ending):Prop:= ∃hv rv,zr 0 0 w w'∧
 ((TL s.txn=s.seen∧e= .returned (.tuple #[.agg #[za s.seq,hv,rv],za (s.seen.length:Int)])∧qB w' w.heap.size hv rv s.txn)∨
  (TL s.txn≠s.seen∧e= .returned (.tuple #[.agg #[za 0,zc,zc],za 0])))
structure RtI (w:World)(xs:List FB)(pre:List (Fin xs.length))(V:World):Prop where
 rd:XV V (w.heap.size+1) (w.heap.size+1) (stP xs pre)
 al:aZ (fP xs pre)
 rs:V.heap[w.heap.size]?=some (zi #[za 0,zc,zc] 35)
 lo:ZF w.heap.size w V
structure RtX (w:World)(xs:List FB)(c:Code)(pre:List (Fin xs.length))(V:World):Prop where
 c:c= .exit 0
 rd:XV V (w.heap.size+1) (w.heap.size+1) (stP xs pre)
 al: ∃p x,pre=p++ [x]∧aZ (fP xs p)∧(zJ (stP xs p) (xs.getD x.val (.raw []))).2=false
 rs:V.heap[w.heap.size]?=some (zi #[za 0,zc,zc] 35)
 lo:ZF w.heap.size w V
theorem U0 (w:World){gf:Nat}{lb:Array Value}{xs:List FB}{tL tM tK:TypeId}{vL vM vK:Value}(hG:Za w tL tM tK vL vM vK)(hE:ZY w)(hM:Mag w)(hx: ∀x∈xs,x.ok)(hl:xs.length≤512)(a3:8≤w.heap.size)(eg: ∀args w,(callFunc gf args).run Tryz.prog w= .ok (.enter gf args) w)
  (ac:ez Tryz.prog gf lb (lX xs) (fun _=>QY w.heap.size) (fun S=>S.map Fin.val=List.range xs.length) (fun pre=>pre.map Fin.val=List.range pre.length) 600 w):
  Calls Tryz.prog 82 #[.func (.func gf) #[] lb] w fun e w'=>mo w w' (zT RS.zero xs) e:=by
 have cA:zr 0 0 w ((w.alloc (zi #[za 0,zc,zc] 35)).alloc (zi #[zc,za 0,zc,zc,zc] 217)):=(zr.al w).alloc _;obtain⟨z1,z2,z3⟩:=zU w (zi #[za 0,zc,zc] 35) (zi #[zc,za 0,zc,zc,zc] 217);refine(nP (n:=0)).1 ?_;refine rS Tryz.func82 rfl trivial ?_ rfl;simp only[Tryz.ntmps82,pA,m7,nH,Nat.reduceAdd,Nat.reduceSub,pL,pM,pO,pP,nG,oD];gi_wp2;generalize (w.alloc (zi #[za 0,zc,zc] 35)).alloc (zi #[zc,za 0,zc,zc,zc] 217)=wL at*
 have a5:wL.heap.size≤w.heap.size+2:=zk;have a6:w.heap.size+2≤wL.heap.size:=zk;clear z1;have a2:=hG.chg cA zk;have aw:Hid (∀V,ZF w.heap.size w V→(Za V tL tM tK vL vM vK∧ZY V)∧Mag V):=fun V hV=>by
  have cc: ∀ {b o:Nat} {x:Value},w.cell? ⟨b,o,none⟩=some x→V.cell? ⟨b,o,none⟩=some x:=fun J=>(nQ (hV.low _ (zV J))).trans J;exact⟨⟨⟨cc hG.eL,cc hG.eM,cc hG.eK,cc hG.m0,cc hG.m1,cc hG.m2,cc hG.m3⟩,cc hE⟩,⟨cc hM.m0,cc hM.m1,cc hM.m2,cc hM.m3⟩⟩
 have aM:XV wL (w.heap.size+1) (w.heap.size+1) RS.zero:=
  ⟨zc,zc,zc,zc,[],z3,⟨rfl,Or.inl ⟨rfl,rfl⟩⟩,qD.zero _ _,rfl,⟨rfl,Or.inl ⟨rfl,rfl⟩⟩,none,0,rfl,mP _,zk,fun h=>absurd h (by simp[RS.zero])⟩
 have I: ∀ {A C:World} {au:Option Nat},A.grownBy C au→(∀r,au=some r→wL.heap.size≤r∧ ∃o:Obj,A.heap[r]?=some o∧o.isCells=false)→ ∀(j:Nat) (O:Array Value) (t:TypeId),A.heap[j]?=some (zi O t)→C.heap[j]?=some (zi O t):=fun Z hr j O t hh=>Z7 hh Z (fun r e=>(hr r e).2)
 have aK:OwnFrom wL.heap.size (RtI w xs):=fun pre A C au h Z hr=>
  ⟨h.rd.keep (I Z hr),h.al,I Z hr _ _ _ h.rs,h.lo.trans (ZF.grown Z (fun r e=>by have:=(hr r e).1;omega) h.lo.size)⟩
 have aL: ∀c,OwnFrom wL.heap.size (RtX w xs c):=fun c pre A C au h Z hr=>
  ⟨h.c,h.rd.keep (I Z hr),h.al,I Z hr _ _ _ h.rs,h.lo.trans (ZF.grown Z (fun r e=>by have:=(hr r e).1;omega) h.lo.size)⟩
 refine JJ (n:=0) (Kp:=ZF w.heap.size) (gf:=gf) (lb:=lb) (w0:=w) rfl eg ac (fun h=>h.low) (cA.below (Or.inl nlR)) (fun _=>rfl) ZF.trans (fun V o _ hb=>ZF.put o)
  (RtI w xs) (RtX w xs) aK aL ?h0
  (fun x a' V=> ∃Bx,V.heap[Bx]?=some (zi ((xs.getD x.val (.raw [])).bs.map (Value.int .u8)).toArray 78)∧a'= {tmps:= #[.func (.func gf) #[] lb,undef,zh w.heap.size,za 0,zh (w.heap.size+1),undef,zh Bx,.func (.func gf) #[] lb,za (x.val:Int),.agg ((xs.getD x.val (.raw [])).bs.map (Value.int .u8)).toArray,undef,undef,undef,undef,undef,undef,undef,undef,undef,undef,undef,undef,undef,undef,undef],defers:= []})
  ?hAx ?assign ?body ?done ?stop
 case h0=>
  intro V hV a4;have cV:zr 0 0 wL V:=zr.ofBelow hV 0 0;exact⟨aM.keep (fun j O t hh=>(hV.block j (zE hh)).trans hh),fun j hj=>absurd hj (by simp[fP]),(hV.block _ zk).trans z2,ZF.chg (cA.trans cV) nlR⟩
 case hAx=>
  rintro x a' _ A C au ⟨Bx,h2,h3⟩ Z hr;exact⟨Bx,Z7 h2 Z (fun r e=>(hr r e).2),h3⟩
 case assign=>
  rintro l' S x V K' aW R hi' G;simp only[lX];have ao:((xs.getD x.val (.raw [])).bs.map (Value.int .u8)).length=64:=by rw[mO];exact FB.len (Ys hx x)
  have aT: ∀v∈(xs.getD x.val (.raw [])).bs.map (Value.int .u8),v.oneCell'=true:=nf _ _;have an:(Tryz.prog.info? 78).map (·.size)=some ((xs.getD x.val (.raw [])).bs.map (Value.int .u8)).length:=by rw[ao];kernel_rfl
  generalize (xs.getD x.val (.raw [])).bs.map (Value.int .u8)=cs at*;gi_wp2_with (refine pj rfl fun K hK=>?_;refine Zs (fun _ h=>by cases h) ?_;refine wp_store_row 78 (.tmp 6) (.tmp 9) rfl rfl V.heap.size rfl cs _ 78 rfl (zt V _) (by rw[ao];rfl) an aT ?_;intro wg aY aZ;refine hK _ _ ?_);have cv:zr 0 0 V wg:=(zr.al V).step aZ (Or.inr (Or.inl nlR));have hs:=hi'.lo.size;refine G _ _ ⟨cv.size,cv.bk _,cv.bk _⟩ (ZF.chg cv hs) ?_ ⟨V.heap.size,aY,rfl⟩
  exact aK _ V wg none hi' (jB cv) (fun r e=>by cases e)
 case body=>
  rintro l' S x a' V aW ⟨r,R⟩ hi' ⟨Bx,aO,rfl⟩ a1;have Q:=hi'.lo;obtain⟨⟨aJ,aI⟩,_⟩:=aw.out V Q;obtain⟨n1,n2,n3⟩:=NA hx S;have hN:=lB V (x:=xs.getD x.val (.raw [])) hi'.rd nlR aJ aI (Ys hx x);have ao:((xs.getD x.val (.raw [])).bs.map (Value.int .u8)).length=64:=by rw[mO];exact FB.len (Ys hx x)
  have an:(Tryz.prog.info? 78).map (·.size)=some ((xs.getD x.val (.raw [])).bs.map (Value.int .u8)).length:=by rw[ao];kernel_rfl
  have aR:Hid _:=zy aO;have a0:=Tryz.underlying78;have HI:Hid _:=hi';have aP:=aG xs S x;have aF:Hid _:=aP;clear aP ao aO hi' ac aJ aI;generalize (xs.getD x.val (.raw [])).bs.map (Value.int .u8)=cs at*;gi_wp2_with (refine pj rfl fun K hK=>?_;refine Zs (fun _ h=>by cases h) ?_;refine wp_load_mid 78 (.tmp 6) rfl Bx 0 rfl cs _ aR a0 rfl an ?_;refine hK _ _ ?_);refine⟨trivial,rfl,((nP.2 hN).inRound l').mono ?_⟩
  rintro e d ⟨rfl,u,U⟩;rw[←aF.out] at U;have ap:ZF w.heap.size V d:=⟨u.os,u.tape,u.output,u.size,fun k hk=>u.low k zk⟩;have E:Hid (ZK wL.heap.size V d∧ZF w.heap.size V d):=⟨⟨u.size,(u.obj _ _ R.df rfl).trans R.df.symm,(u.obj _ _ R.lp rfl).trans R.lp.symm⟩,ap⟩;have M:Hid (d.heap[w.heap.size]?=some (zi #[za 0,zc,zc] 35)):=(u.low _ zk).trans HI.rs;have F:Hid _:=U;have aH:Hid _:=Q.trans ap;have aS:Hid (fP xs (S++ [x])=fP xs S++ [xs.getD x.val (.raw [])]):=by show _=_;unfold fP;simp
  obtain⟨tb,aA⟩: ∃tb,Hid (tb=(zJ (stP xs S) (xs.getD x.val (.raw []))).2):=⟨_,rfl⟩;rw[←aA.out];clear hN U u ap aF
  cases tb with
  |true=>
   have HF:Hid ((ZK wL.heap.size V d∧ZF w.heap.size V d)∧RtI w xs (S++ [x]) d):=⟨E,F,by rw[aS.out];exact HI.al.snoc aA.symm,M,aH⟩;clear HI F;gi_wp2;exact HF
  |false=>
   have HF:Hid ((ZK wL.heap.size V d∧ZF w.heap.size V d)∧RtX w xs (.exit 0) (S++ [x]) d):=⟨E,rfl,F,⟨S,x,rfl,HI.al,aA.symm⟩,M,aH⟩;clear HI F;gi_wp2;exact HF
 case done=>
  rintro D S V hD hS hi' G;have ab:=fH hS hi'.al;have aq:=hi'.rd;have ar:=hi'.rs;have Q:=hi'.lo;rw[←ab] at aq;have f:=JY.stP hx S;obtain⟨n1,n2,n3⟩:=NA hx S;have aE:S.length=xs.length:=by have:=nI List.length hS;simpa using this
  rw[←ab] at f n1 n2 n3;clear hi';obtain⟨sv,hv,rv,av,es,U,m⟩:=aq;obtain⟨s,hs⟩: ∃s,s=zT RS.zero xs:=⟨_,rfl⟩;rw[←hs] at f n1 n2 n3 U m;have Hs:Hid _:=hs.symm;have m1:s.seen.length≤600:=zk;have m2:s.homes.length≤600:=zk;have m3:s.rV.length≤15600:=zk;clear hs ab n1 n2 n3 aE hS;have aV:=(zE G);have aX:=(zE U);have am: ∀e∈es,e.2.2.length=64:=fun e he=>by
   have hm:(e.1,e.2.2)∈s.homes:=by rw[←m.hs];exact m9.2 ⟨e,he,rfl⟩
   exact(f.hl _ hm).1
  have ay:Hid (∀e∈es,e.2.2.length=64∧Byt e.2.2):=fun e he=>by
   have hm:(e.1,e.2.2)∈s.homes:=by rw[←m.hs];exact m9.2 ⟨e,he,rfl⟩
   exact f.hl _ hm
  have P:Qa s.txn≤1048576:=by
   unfold Qa RS.txn;simp only;rw[bA _ (fun p hp=>(f.hl p hp).1)];omega
  have aj: ∀ {W:World} {hv':Value},qD W (w.heap.size+1) hv' es→qW W w.heap.size W.heap.size hv' s.homes:=fun{W hv'} ho=>by
   have:=ho.viewJ (fun e he=>by rw[am e he];omega);rw[m.hs] at this;exact this.mono zk nlR
  have ak: ∀ {W:World} {rv':Value},zM W (w.heap.size+1) 2 rv' s.rV→zC W w.heap.size W.heap.size .i64 rv' s.rV:=fun{W rv'} ho=>
   (ho.view zk (fun g Z=>(ho.lt g Z).2)).mono zk nlR
  have hN:=Kr V (t:=s.txn) (bs:=s.seen) (lo:=w.heap.size) (hi:=V.heap.size) (a:= .agg #[za s.seq,hv,rv]) P nlR (fun x hx=>(f.hl x hx).2) (aw V Q).2 ⟨hv,rv,rfl,aj m.homes,ak m.rV⟩ m.seen (fun b hb=>(f.sl b hb).1) (fun b hb=>(f.sl b hb).2);obtain⟨y0,y1,y2,y3,_,_⟩:=q9 U;obtain⟨sa,sn,sc,rfl⟩:=zF m.seen;obtain rfl:sn=s.seen.length:=by
   rcases m.seen.2 with⟨e,h0⟩|⟨g,cap,O,e,_⟩
   ·cases e;exact h0.symm
   ·simp only[ns] at e;exact e.2.1
  obtain⟨Y,hn,J,rfl⟩:=m.homes.slice;obtain⟨ra,rc,rfl⟩:=m.rV.shape;have HP:Hid _:=m;have HR:Hid _:=U;have HK:Hid _:=G;have M:Hid _:=ar;have aU:=hD;clear aj ak m U G ar f P am ac hD;gi_wp2;refine⟨trivial,rfl,(nP.2 hN).mono ?_⟩;rintro e d ⟨rfl,T⟩;have s2:=T.size;have af:Hid _:=HP.chg T zk;have F:Hid _:=T.bt HR;have E:Hid _:=T.bt HK;have i:Hid _:=T.bt M;have B:Hid _:=Q.trans (ZF.chg T);clear HP HR HK M T hN y0 y1 y2 y3
  by_cases u:TL s.txn=s.seen
  case neg=>
   have HT:Hid _:=u;rw[mY u];obtain⟨⟨q0,q1,q2⟩,f0,f1,f2⟩:=tri i;clear u;gi_wp2;have r1:(d.setCell (zd w.heap.size) (za 0)).heap[w.heap.size]?=some (zi #[za 0,zc,zc] 35):=jS i _;have r2:((d.setCell (zd w.heap.size) (za 0)).setCell ⟨w.heap.size,1,none⟩ (zc)).heap[w.heap.size]?=some (zi #[za 0,zc,zc] 35):=jS r1 _;have r3:(((d.setCell (zd w.heap.size) (za 0)).setCell ⟨w.heap.size,1,none⟩ (zc)).setCell ⟨w.heap.size,2,none⟩ (zc)).heap[w.heap.size]?=some (zi (List.toArray [za 0,zc,zc]) 35):=jS r2 _
   have c3:zr w.heap.size (w.heap.size+1) d (((d.setCell (zd w.heap.size) (za 0)).setCell ⟨w.heap.size,1,none⟩ (zc)).setCell ⟨w.heap.size,2,none⟩ (zc)):=
    (((zr.refl _ _ d).setCell (p:=(zd w.heap.size)) (Or.inl ⟨mP _,m5 _⟩) _).setCell (p:=⟨w.heap.size,1,none⟩) (Or.inl ⟨mP _,m5 _⟩) _).setCell (p:=⟨w.heap.size,2,none⟩) (Or.inl ⟨mP _,m5 _⟩) _
   generalize ((d.setCell (zd w.heap.size) (za 0)).setCell ⟨w.heap.size,1,none⟩ (zc)).setCell ⟨w.heap.size,2,none⟩ (zc)=V3 at*;have aB:=(c3.bk D).trans E;have aa: ∀o,(loadVar 35 (zd w.heap.size)).run Tryz.prog (V3.putObj D o)= .ok (.agg (List.toArray [za 0,zc,zc])) (V3.putObj D o):=fun o=>nd _ _ _ _ [za 0,zc,zc] _ (zy ((World.putObj_heap_other zk).trans r3)) Tryz.underlying35 rfl zl;refine⟨zn,.inl ⟨_,_,rfl,oE aB,?_⟩⟩
   refine⟨_,Zo Tryz.results82 rfl rfl (aa _),zc,zc,?_,Or.inr ⟨by rw[Hs.out];exact HT,rfl⟩⟩;exact(B.toChg.step c3).step (l:=D) (r:=D+1) ⟨rfl,rfl,rfl,zn,fun k _ ho=>World.putObj_heap_other zk⟩
  have HT:Hid _:=u;rw[mR u];clear u;have aD:Tryz.prog.follows .mixedOrders=true:=zl;gi_wp2;have HS:Hid ((fun w':World=>w'.heap[w.heap.size+1]?=some (rdO (zj sa s.seen.length sc) s.seq (zj Y hn J) (zj ra s.rV.length rc) av)) d.drew):=F.out;refine QA (fun w':World=>w'.heap[w.heap.size+1]?=some (rdO (zj sa s.seen.length sc) s.seq (zj Y hn J) (zj ra s.rV.length rc) av)) aD ?_;have c3:zr 0 0 d d.drew:=zr.drew (zr.refl _ _ d)
  have N:Hid (d.drew.heap[w.heap.size]?=some (zi (List.toArray [za 0,zc,zc]) 35)):=i.out;have ad:Hid (d.drew.heap[D]?=some (.deferred (some []))):=E.out;have ag:Hid _:=af.chg c3 zk;have L:Hid _:=B.trans (ZF.chg c3);have s3:d.heap.size≤d.drew.heap.size:=mP _;clear c3 i E af B F;generalize d.drew=X at*;refine vTk 0 (.pointer (some ⟨w.heap.size+1,1,none⟩)) rfl (fun w' q=>zm) HS.out ?_;go_simp;refine vTk 1 (.agg #[za s.seq,zj Y hn J,zj ra s.rV.length rc]) rfl (fun w' q=>by obtain⟨_,h1,h2,h3,_⟩:=q9 q;go_simp) HS.out ?_
  go_simp;refine vTk 2 (zh (w.heap.size+1)) rfl (fun w' q=>zm) HS.out ?_;go_simp;refine vTk 3 (zj sa s.seen.length sc) rfl (fun w' q=>by obtain⟨h1,_⟩:=q9 q;go_simp) HS.out ?_;go_simp;refine vTk 4 (za (s.seen.length:Int)) rfl (fun w' q=>zm) HS.out ?_;go_simp;refine ZN 5 rfl zl rfl zl ?_;refine wsR [za s.seq,zj Y hn J,zj ra s.rV.length rc] N ?_;intro X4 r4 c4;have s4:=c4.size;have ah:Hid _:=c4.bt HS
  have ae:Hid (X4.heap[D]?=some (.deferred (some []))):=(c4.bk D).trans ad;have ax:Hid _:=ag.chg c4 zk;have ai:Hid _:=L.toChg.step c4;have az:Hid _:=r4;refine⟨ah,?_⟩;clear r4 c4 ag L ad N;go_simp;refine ZN 6 rfl zl rfl zl ?_;refine jb (v:=za (s.seen.length:Int)) (w':=X4) zq ⟨ah.out,?_⟩;go_simp;refine Qd zl ?_;refine jV.mk ?_;gi_wp2;have aa: ∀o,(loadVar 35 (zd w.heap.size)).run Tryz.prog (X4.putObj D o)= .ok (.agg (List.toArray [za s.seq,zj Y hn J,zj ra s.rV.length rc])) (X4.putObj D o):=fun o=>nd _ _ _ _ [za s.seq,zj Y hn J,zj ra s.rV.length rc] _ (zy ((World.putObj_heap_other zk).trans az)) Tryz.underlying35 rfl zl
  refine⟨zn,.inl ⟨_,_,rfl,oE ae,?_⟩⟩;have H:=ax.keepC (w':=X4.putObj D (.deferred none)) (fun j O t _ hh=>(World.putObj_heap_other (fun e=>by rw[e,ae.out] at hh;cases hh)).trans hh);refine⟨_,Zo Tryz.results82 rfl rfl (aa _),zj Y hn J,zj ra s.rV.length rc,?_,Or.inl ⟨by rw[Hs.out];exact HT.out,by rw[Hs.out];rfl,by rw[Hs.out];exact qB.low ⟨es,H.homes,H.hs,ay.out,H.rV,by show s.rV.length≤20000;omega,by rw[H.hlen];omega⟩⟩⟩
  exact ai.step (l:=D) (r:=D+1) ⟨rfl,rfl,rfl,zn,fun k _ ho=>World.putObj_heap_other zk⟩
 case stop=>
  rintro D c S V hD aC ⟨rfl,aq,⟨p,x,rfl,aN,aQ⟩,ar,Q⟩ G;have ab:=fI aC aN aQ;rw[←ab] at aq;have f:=JY.stP hx (p++ [x]);obtain⟨n1,n2,n3⟩:=NA hx (p++ [x]);have aE:(p++ [x]).length≤xs.length:=by
   have h1: ∀y∈(p++ [x]).map Fin.val,y<xs.length:=fun y hy=>by obtain⟨z,_,rfl⟩:=m9.1 hy;exact z.isLt
   rw[aC] at h1;have:=h1 ((p++ [x]).length-1) (pq.2 zn);omega
  rw[←ab] at f n1 n2 n3;obtain⟨sv,hv,rv,av,es,U,m⟩:=aq;obtain⟨s,hs⟩: ∃s,s=zT RS.zero xs:=⟨_,rfl⟩;rw[←hs] at f n1 n2 n3 U m;have Hs:Hid _:=hs.symm;have m1:s.seen.length≤600:=zk;have m2:s.homes.length≤600:=zk;have m3:s.rV.length≤15600:=zk;clear hs ab n1 n2 n3 aE aC aN aQ;have aV:=(zE G);have aX:=(zE U);have am: ∀e∈es,e.2.2.length=64:=fun e he=>by
   have hm:(e.1,e.2.2)∈s.homes:=by rw[←m.hs];exact m9.2 ⟨e,he,rfl⟩
   exact(f.hl _ hm).1
  have ay:Hid (∀e∈es,e.2.2.length=64∧Byt e.2.2):=fun e he=>by
   have hm:(e.1,e.2.2)∈s.homes:=by rw[←m.hs];exact m9.2 ⟨e,he,rfl⟩
   exact f.hl _ hm
  have P:Qa s.txn≤1048576:=by
   unfold Qa RS.txn;simp only;rw[bA _ (fun p hp=>(f.hl p hp).1)];omega
  have aj: ∀ {W:World} {hv':Value},qD W (w.heap.size+1) hv' es→qW W w.heap.size W.heap.size hv' s.homes:=fun{W hv'} ho=>by
   have:=ho.viewJ (fun e he=>by rw[am e he];omega);rw[m.hs] at this;exact this.mono zk nlR
  have ak: ∀ {W:World} {rv':Value},zM W (w.heap.size+1) 2 rv' s.rV→zC W w.heap.size W.heap.size .i64 rv' s.rV:=fun{W rv'} ho=>
   (ho.view zk (fun g Z=>(ho.lt g Z).2)).mono zk nlR
  have hN:=Kr V (t:=s.txn) (bs:=s.seen) (lo:=w.heap.size) (hi:=V.heap.size) (a:= .agg #[za s.seq,hv,rv]) P nlR (fun x hx=>(f.hl x hx).2) (aw V Q).2 ⟨hv,rv,rfl,aj m.homes,ak m.rV⟩ m.seen (fun b hb=>(f.sl b hb).1) (fun b hb=>(f.sl b hb).2);obtain⟨y0,y1,y2,y3,_,_⟩:=q9 U;obtain⟨sa,sn,sc,rfl⟩:=zF m.seen;obtain rfl:sn=s.seen.length:=by
   rcases m.seen.2 with⟨e,h0⟩|⟨g,cap,O,e,_⟩
   ·cases e;exact h0.symm
   ·simp only[ns] at e;exact e.2.1
  obtain⟨Y,hn,J,rfl⟩:=m.homes.slice;obtain⟨ra,rc,rfl⟩:=m.rV.shape;have HP:Hid _:=m;have HR:Hid _:=U;have HK:Hid _:=G;have M:Hid _:=ar;have aU:=hD;clear aj ak m U G ar f P am ac hD;gi_wp2;refine⟨trivial,rfl,(nP.2 hN).mono ?_⟩;rintro e d ⟨rfl,T⟩;have s2:=T.size;have af:Hid _:=HP.chg T zk;have F:Hid _:=T.bt HR;have E:Hid _:=T.bt HK;have i:Hid _:=T.bt M;have B:Hid _:=Q.trans (ZF.chg T);clear HP HR HK M T hN y0 y1 y2 y3
  by_cases u:TL s.txn=s.seen
  case neg=>
   have HT:Hid _:=u;rw[mY u];obtain⟨⟨q0,q1,q2⟩,f0,f1,f2⟩:=tri i;clear u;gi_wp2;have r1:(d.setCell (zd w.heap.size) (za 0)).heap[w.heap.size]?=some (zi #[za 0,zc,zc] 35):=jS i _;have r2:((d.setCell (zd w.heap.size) (za 0)).setCell ⟨w.heap.size,1,none⟩ (zc)).heap[w.heap.size]?=some (zi #[za 0,zc,zc] 35):=jS r1 _;have r3:(((d.setCell (zd w.heap.size) (za 0)).setCell ⟨w.heap.size,1,none⟩ (zc)).setCell ⟨w.heap.size,2,none⟩ (zc)).heap[w.heap.size]?=some (zi (List.toArray [za 0,zc,zc]) 35):=jS r2 _
   have c3:zr w.heap.size (w.heap.size+1) d (((d.setCell (zd w.heap.size) (za 0)).setCell ⟨w.heap.size,1,none⟩ (zc)).setCell ⟨w.heap.size,2,none⟩ (zc)):=
    (((zr.refl _ _ d).setCell (p:=(zd w.heap.size)) (Or.inl ⟨mP _,m5 _⟩) _).setCell (p:=⟨w.heap.size,1,none⟩) (Or.inl ⟨mP _,m5 _⟩) _).setCell (p:=⟨w.heap.size,2,none⟩) (Or.inl ⟨mP _,m5 _⟩) _
   generalize ((d.setCell (zd w.heap.size) (za 0)).setCell ⟨w.heap.size,1,none⟩ (zc)).setCell ⟨w.heap.size,2,none⟩ (zc)=V3 at*;have aB:=(c3.bk D).trans E;have aa: ∀o,(loadVar 35 (zd w.heap.size)).run Tryz.prog (V3.putObj D o)= .ok (.agg (List.toArray [za 0,zc,zc])) (V3.putObj D o):=fun o=>nd _ _ _ _ [za 0,zc,zc] _ (zy ((World.putObj_heap_other zk).trans r3)) Tryz.underlying35 rfl zl;refine⟨zn,.inl ⟨_,_,rfl,oE aB,?_⟩⟩
   refine⟨_,Zo Tryz.results82 rfl rfl (aa _),zc,zc,?_,Or.inr ⟨by rw[Hs.out];exact HT,rfl⟩⟩;exact(B.toChg.step c3).step (l:=D) (r:=D+1) ⟨rfl,rfl,rfl,zn,fun k _ ho=>World.putObj_heap_other zk⟩
  have HT:Hid _:=u;rw[mR u];clear u;have aD:Tryz.prog.follows .mixedOrders=true:=zl;gi_wp2;have HS:Hid ((fun w':World=>w'.heap[w.heap.size+1]?=some (rdO (zj sa s.seen.length sc) s.seq (zj Y hn J) (zj ra s.rV.length rc) av)) d.drew):=F.out;refine QA (fun w':World=>w'.heap[w.heap.size+1]?=some (rdO (zj sa s.seen.length sc) s.seq (zj Y hn J) (zj ra s.rV.length rc) av)) aD ?_;have c3:zr 0 0 d d.drew:=zr.drew (zr.refl _ _ d)
  have N:Hid (d.drew.heap[w.heap.size]?=some (zi (List.toArray [za 0,zc,zc]) 35)):=i.out;have ad:Hid (d.drew.heap[D]?=some (.deferred (some []))):=E.out;have ag:Hid _:=af.chg c3 zk;have L:Hid _:=B.trans (ZF.chg c3);have s3:d.heap.size≤d.drew.heap.size:=mP _;clear c3 i E af B F;generalize d.drew=X at*;refine vTk 0 (.pointer (some ⟨w.heap.size+1,1,none⟩)) rfl (fun w' q=>zm) HS.out ?_;go_simp;refine vTk 1 (.agg #[za s.seq,zj Y hn J,zj ra s.rV.length rc]) rfl (fun w' q=>by obtain⟨_,h1,h2,h3,_⟩:=q9 q;go_simp) HS.out ?_
  go_simp;refine vTk 2 (zh (w.heap.size+1)) rfl (fun w' q=>zm) HS.out ?_;go_simp;refine vTk 3 (zj sa s.seen.length sc) rfl (fun w' q=>by obtain⟨h1,_⟩:=q9 q;go_simp) HS.out ?_;go_simp;refine vTk 4 (za (s.seen.length:Int)) rfl (fun w' q=>zm) HS.out ?_;go_simp;refine ZN 5 rfl zl rfl zl ?_;refine wsR [za s.seq,zj Y hn J,zj ra s.rV.length rc] N ?_;intro X4 r4 c4;have s4:=c4.size;have ah:Hid _:=c4.bt HS
  have ae:Hid (X4.heap[D]?=some (.deferred (some []))):=(c4.bk D).trans ad;have ax:Hid _:=ag.chg c4 zk;have ai:Hid _:=L.toChg.step c4;have az:Hid _:=r4;refine⟨ah,?_⟩;clear r4 c4 ag L ad N;go_simp;refine ZN 6 rfl zl rfl zl ?_;refine jb (v:=za (s.seen.length:Int)) (w':=X4) zq ⟨ah.out,?_⟩;go_simp;refine Qd zl ?_;refine jV.mk ?_;gi_wp2;have aa: ∀o,(loadVar 35 (zd w.heap.size)).run Tryz.prog (X4.putObj D o)= .ok (.agg (List.toArray [za s.seq,zj Y hn J,zj ra s.rV.length rc])) (X4.putObj D o):=fun o=>nd _ _ _ _ [za s.seq,zj Y hn J,zj ra s.rV.length rc] _ (zy ((World.putObj_heap_other zk).trans az)) Tryz.underlying35 rfl zl
  refine⟨zn,.inl ⟨_,_,rfl,oE ae,?_⟩⟩;have H:=ax.keepC (w':=X4.putObj D (.deferred none)) (fun j O t _ hh=>(World.putObj_heap_other (fun e=>by rw[e,ae.out] at hh;cases hh)).trans hh);refine⟨_,Zo Tryz.results82 rfl rfl (aa _),zj Y hn J,zj ra s.rV.length rc,?_,Or.inl ⟨by rw[Hs.out];exact HT.out,by rw[Hs.out];rfl,by rw[Hs.out];exact qB.low ⟨es,H.homes,H.hs,ay.out,H.rV,by show s.rV.length≤20000;omega,by rw[H.hlen];omega⟩⟩⟩
  exact ai.step (l:=D) (r:=D+1) ⟨rfl,rfl,rfl,zn,fun k _ ho=>World.putObj_heap_other zk⟩
end Go.Proofs.YthdeofoleiiibaaGreatDoor
