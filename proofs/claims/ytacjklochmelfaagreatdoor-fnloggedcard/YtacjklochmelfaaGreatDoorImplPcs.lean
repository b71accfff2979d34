import Derived.Test.YtacjklochmelfaaGreatDoorCells2
import Derived.RangeFuncNested
import Derived.RangeFuncBound
import Derived.RangeFuncCalls
import Derived.RangeFuncLeaves
import Derived.RangeFuncFrom
import Derived.RangeFuncWrites
import Derived.RangeFuncBox
import Derived.Shelf.Abstract
import Derived.Shelf.RegionOpen
import Derived.OwnWalkIn
import Derived.TacticsInMore
import Derived.LoopNIn
import Derived.LoopIn
import Derived.Test.YtacjklochmelfaaGreatDoorRows
namespace Go.Proofs.YtacjklochmelfaaGreatDoor
open Go.RowKit Go.Shelf
set_option maxRecDepth 100000
set_option maxHeartbeats 16000000
theorem Zk {A B:World}{row:Option Nat}{k:Nat}{cs:Array Value}{t:TypeId}{fr:Nat×Nat}(h:A.heap[k]?=some (.cells cs t fr))(hg:A.grownBy B row)(hr: ∀r,row=some r→ ∃o:Obj,A.heap[r]?=some o∧o.isCells=false):B.heap[k]?=some (.cells cs t fr):=by
 refine(hg.block k (gLt h) (fun e=>?_)).trans h;obtain⟨o,ho,hc⟩:=hr _ e.symm;rw[h] at ho
 cases ho
 cases hc
structure qe (lo M:Nat)(V W:World):Prop where
 size:V.heap.size≤W.heap.size
 same: ∀k,lo≤k→k<M→W.heap[k]?=V.heap[k]?
theorem qe.refl (lo M:Nat)(V:World):qe lo M V V:=⟨Nat.le_refl _,fun _ _ _=>rfl⟩
theorem qe.trans {lo M:Nat}{A B C:World}(h:qe lo M A B)(k:qe lo M B C):qe lo M A C:=⟨Nat.le_trans h.size k.size,fun i h1 h2=>(k.same i h1 h2).trans (h.same i h1 h2)⟩
theorem qe.sub {lo lo' M M':Nat}{A B:World}(h:qe lo M A B)(hl:lo≤lo')(hM:M'≤M):qe lo' M' A B:=⟨h.size,fun i h1 h2=>h.same i (Nat.le_trans hl h1) (Nat.lt_of_lt_of_le h2 hM)⟩
theorem qe.put {lo M l:Nat}(A:World)(o:Obj)(hl:l<lo∨M≤l):qe lo M A (A.putObj l o):=⟨by simp,fun i h1 h2=>World.putObj_heap_other (by omega)⟩
theorem qe.chg {lo M l r:Nat}{A B:World}(c:Chg l r A B)(hM:M≤A.heap.size)(hd:r≤lo∨M≤l∨r≤l):qe lo M A B:=⟨c.size,fun i h1 h2=>c.block i (Nat.lt_of_lt_of_le h2 hM) (by omega)⟩
theorem XQ {n m:Nat}{P:Program}{l:Nat}{f:FuncId}{tmps:Array Value}{assign body:Code}{w:World}{R:Ending→World→Prop}(h:RoundIn Fence.wide n P l f tmps assign body w R)(l':Nat):RoundIn (Fence.wide.inRound l') m P l f tmps assign body w R:=
 ⟨h.1,fun c cs _=>h.2 c cs (fun d hd=>by cases hd)⟩
theorem J1 {n m:Nat}{P:Program}{l:Nat}{f:FuncId}{tmps:Array Value}{assign body:Code}{w:World}{R:Ending→World→Prop}(h:RoundIn Fence.wide n P l f tmps assign body w R):RoundIn Fence.wide m P l f tmps assign body w R:=
 ⟨h.1,fun c cs _=>h.2 c cs (fun d hd=>by cases hd)⟩
def Yields (P:Program) (l:Nat) (args:Array Value) (W:World) (R:Ending→World→Prop):Prop:=
 ∃fn tmps assign body,(Instr.yield l args).run P W= .ok (.round l fn tmps assign body) W∧RoundIn Fence.wide 0 P l fn tmps assign body W R
def NR {β:Type} (lo M:Nat) (I:β→World→Prop):Prop:= ∀s A C,I s A→Chg lo M A C→M≤A.heap.size→I s C
def Left {α:Type} (lo M:Nat) (Kp:World→World→Prop) (I:List α→World→Prop) (Ix:Code→List α→World→Prop) (xs:List α) (W:World):Exit→Act→World→Prop
 | .normal,_,W'=>(qe lo M W W'∧Kp W W')∧I xs W'
 | .ret,_,W'=>(qe lo M W W'∧Kp W W')∧Ix .ret xs W'
 | .exit id,_,W'=>(qe lo M W W'∧Kp W W')∧Ix (.exit id) xs W'
 | .goto t,_,W'=>(qe lo M W W'∧Kp W W')∧Ix (.goto t) xs W'
 | .panic _,_,_=>False
 | .outgrown,_,_=>False
structure Rcd (l D:Nat)(r:Loop)(W:World):Prop where
 lp:W.heap[l]?=some (.loop r)
 df:W.heap[D]?=some (.deferred (some []))
theorem Rcd.own {l D B:Nat}{r:Loop}(hl:l<B)(hD:D<B):OwnFrom (β:=Unit) B (fun _ W=>Rcd l D r W):=fun _ A C row hs hg hr=>
 ⟨(hg.block l (gLt hs.lp) (fun e=>by have:=(hr _ e.symm).1;omega)).trans hs.lp,(hg.block D (gLt hs.df) (fun e=>by have:=(hr _ e.symm).1;omega)).trans hs.df⟩
theorem Rcd.put {l D:Nat}{r r':Loop}{W:World}(h:Rcd l D r W)(hne:D≠l):Rcd l D r' (W.putObj l (.loop r')):=
 ⟨World.putObj_heap_same (gLt h.lp),(World.putObj_heap_other hne).trans h.df⟩
theorem Rcd.kept {lo M l D:Nat}{r:Loop}{V W:World}(h:Rcd l D r V)(k:qe lo M V W)(hl:lo≤l∧l<M)(hD:lo≤D∧D<M):Rcd l D r W:=⟨(k.same _ hl.1 hl.2).trans h.lp,(k.same _ hD.1 hD.2).trans h.df⟩
section
variable{α:Type} {P:Program} {n:Nat} {encs:α→Array Value} {Kp:World→World→Prop} {I:List α→World→Prop} {Ix:Code→List α→World→Prop}
theorem aa7 {assign body:Code}{ps:Array Tmp}{tmps:Array Value}{fn:FuncId}{B M:Nat}(r:Loop)(hr:r.state= .ready)(hpend:r.pending=none)(hrf:r.fn=fn)(hrt:r.tmps=tmps)(hrp:r.params=ps)(hra:r.assign=assign)(hrb:r.body=body)(hM:B+2≤M)
  (hps: ∀x,(encs x).size=ps.size) (hKt: ∀ {A B C:World},Kp A B→Kp B C→Kp A C) (hKb: ∀(W:World) (o:Obj) (r:Loop),W.heap[B+1]?=some (.loop r)→Kp W (W.putObj (B+1) o))
  (hI:OwnFrom B I) (hIx: ∀c,OwnFrom B (Ix c)) (Ax:α→Act→World→Prop) (hAx: ∀x a',OwnFrom B (fun(_:Unit) W=>Ax x a' W)) {pre:List α} {x:α} {W:World} (hrec:Rcd (B+1) B r W) (hMW:M≤W.heap.size)
  (hassign: ∀(K:Act→World→Prop),(∀a' W',qe B M W W'→Kp W W'→I pre W'→Ax x a' W'→K a' W')→
   assign.wpIn (Fence.wide.inRound (B+1)) n P (Exit.then K (fun _ _ _=>False)) {tmps:=(ps.zip (encs x)).foldl (fun t (p,v)=>t.setIfInBounds p v) tmps,defers:= []} W)
  (hbody: ∀(a':Act) (W:World),M≤W.heap.size→I pre W→Ax x a' W→body.wpIn (Fence.wide.inRound (B+1)) n P (Left B M Kp I Ix (pre++ [x]) W) a' W):
  Yields P (B+1) (encs x) W fun e W'=>(qe (B+2) M W W'∧Kp W W')∧((e= .returned (.bool true)∧I (pre++ [x]) W'∧Rcd (B+1) B r W')∨(e= .returned (.bool false)∧ ∃c,Ix c (pre++ [x]) W'∧Rcd (B+1) B {r with state:= .done,pending:=some c} W')):=by
 have hy:=run_yield (P:=P) (args:=encs x) hrec.lp (by rw[hrp];exact hps x);rw[hrf,hrt,hrp,hra,hrb] at hy;refine⟨fn,_,assign,body,hy,J1 (roundIn_of_wpIn (n:=n) trivial (hassign _ ?_))⟩;intro a' W1 hk1 hp1 hi1 hax;have r1:=hrec.kept hk1 (by omega) (by omega);refine⟨_,run_beginRound r1.lp hr,?_⟩;have r2:Rcd (B+1) B {r with state:= .busy} (W1.putObj (B+1) (.loop {r with state:= .busy})):=r1.put (by omega)
 refine wpIn_mono (hbody a' _ (by have:=hk1.size;simp;omega) (hI.putObj _ hi1 (Nat.le_succ _) r1.lp rfl) ((hAx x a').putObj (s:=()) _ hax (Nat.le_succ _) r1.lp rfl)) ?_;have big: ∀(W3:World) (o:Obj),(qe B M (W1.putObj (B+1) (.loop {r with state:= .busy})) W3∧Kp (W1.putObj (B+1) (.loop {r with state:= .busy})) W3)→
   Rcd (B+1) B {r with state:= .busy} W3∧(qe (B+2) M W (W3.putObj (B+1) o)∧Kp W (W3.putObj (B+1) o)):=by
  intro W3 o ⟨k3,p3⟩;refine⟨r2.kept k3 (by omega) (by omega),?_,hKt hp1 (hKt (hKb _ _ _ r1.lp) (hKt p3 (hKb _ _ _ (r2.kept k3 (by omega) (by omega)).lp)))⟩;exact(((hk1.sub (by omega) (Nat.le_refl _)).trans (qe.put _ _ (by omega))).trans (k3.sub (by omega) (Nat.le_refl _))).trans (qe.put _ _ (by omega))
 rintro e a3 W3 hp
 cases e with
 |normal=>
  obtain⟨hk3,hi3⟩:=hp;obtain⟨r3,hb⟩:=big W3 _ hk3;refine⟨_,_,run_endRound none r3.lp,hb,Or.inl ⟨rfl,hI.putObj _ hi3 (Nat.le_succ _) r3.lp rfl,?_⟩⟩;have:=r3.put (r':= {{r with state:= .busy} with state:=if(none:Option Code).isNone then .ready else .done,pending:=none}) (by omega);have e:({{r with state:= .busy} with state:=if(none:Option Code).isNone then .ready else .done,pending:=none}:Loop)=r:=by cases r;simp_all
  rw[e] at this⊢;exact this
 |ret=>
  obtain⟨hk3,hi3⟩:=hp;obtain⟨r3,hb⟩:=big W3 _ hk3;exact⟨_,_,run_endRound (some .ret) r3.lp,hb,Or.inr ⟨rfl,.ret,(hIx _).putObj _ hi3 (Nat.le_succ _) r3.lp rfl,r3.put (by omega)⟩⟩
 |exit id=>
  obtain⟨hk3,hi3⟩:=hp;obtain⟨r3,hb⟩:=big W3 _ hk3;exact⟨_,_,run_endRound (some (.exit id)) r3.lp,hb,Or.inr ⟨rfl,.exit id,(hIx _).putObj _ hi3 (Nat.le_succ _) r3.lp rfl,r3.put (by omega)⟩⟩
 |goto t=>
  obtain⟨hk3,hi3⟩:=hp;obtain⟨r3,hb⟩:=big W3 _ hk3;exact⟨_,_,run_endRound (some (.goto t)) r3.lp,hb,Or.inr ⟨rfl,.goto t,(hIx _).putObj _ hi3 (Nat.le_succ _) r3.lp rfl,r3.put (by omega)⟩⟩
 |panic ch=>exact hp.elim
 |outgrown=>exact hp.elim
end
def aau {α:Type} (P:Program) (g:Nat) (lb:Array Value) (encs:α→Array Value) (Kp:Nat→World→World→Prop) (S Sp:List α→Prop) (N:Nat) (w:World):Prop:=
 ∀(l:Nat) (J Jx:List α→World→Prop) (W:World),Below w.heap.size w W→OwnFrom W.heap.size J→OwnFrom W.heap.size Jx→
  (∀pre x V,W.heap.size≤V.heap.size→J pre V→pre.length<N→Go.Proofs.YtacjklochmelfaaGreatDoor.Yields P l (encs x) V fun e V'=>(V.heap.size≤V'.heap.size∧Kp W.heap.size V V')∧((e= .returned (.bool true)∧J (pre++ [x]) V')∨(e= .returned (.bool false)∧Jx (pre++ [x]) V')))→
  (∀V,Below W.heap.size W V→J [] V)→
  CallsIn Fence.wide 0 P g (#[.func (.yield l) #[] #[]]++lb) W fun e W'=>(∃v,e= .returned v)∧((∃xs,S xs∧J xs W')∨(∃pre,Sp pre∧Jx pre W'))
def adv {α:Type} (P:Program) (g:Nat) (lb:Array Value) (encs:α→Array Value) (Kp:Nat→World→World→Prop) (S Sp:List α→Prop) (N:Nat) (w:World):Prop:=
 ∀(l:Nat) (J Jx:Nat→List α→World→Prop) (W:World),Below w.heap.size w W→(∀M,OwnFrom W.heap.size (J M))→(∀M,OwnFrom W.heap.size (Jx M))→(∀M,NR W.heap.size M (J M))→(∀M,NR W.heap.size M (Jx M))→
  (∀M pre x V,W.heap.size≤M→M≤V.heap.size→J M pre V→pre.length<N→Go.Proofs.YtacjklochmelfaaGreatDoor.Yields P l (encs x) V fun e V'=>(qe W.heap.size M V V'∧Kp W.heap.size V V')∧((e= .returned (.bool true)∧J M (pre++ [x]) V')∨(e= .returned (.bool false)∧Jx M (pre++ [x]) V')))→
  (∀V,Below W.heap.size W V→J V.heap.size [] V)→
  CallsIn Fence.wide 0 P g (#[.func (.yield l) #[] #[]]++lb) W fun e W'=>(∃v,e= .returned v)∧((∃M xs,S xs∧J M xs W')∨(∃M pre,Sp pre∧Jx M pre W'))
structure jX (B:Nat)(V W:World):Prop where
 size:V.heap.size≤W.heap.size
 b0:W.heap[B]?=V.heap[B]?
 b1:W.heap[B+1]?=V.heap[B+1]?
theorem jX.refl (B:Nat)(V:World):jX B V V:=⟨Nat.le_refl _,rfl,rfl⟩
theorem Rcd.kept2 {B:Nat}{r:Loop}{V W:World}(h:Rcd (B+1) B r V)(k:jX B V W):Rcd (B+1) B r W:=⟨k.b1.trans h.lp,k.b0.trans h.df⟩
def adn {α:Type} (B:Nat) (Kp:World→World→Prop) (I:List α→World→Prop) (Ix:Code→List α→World→Prop) (xs:List α) (W:World):Exit→Act→World→Prop
 | .normal,_,W'=>(jX B W W'∧Kp W W')∧I xs W'
 | .ret,_,W'=>(jX B W W'∧Kp W W')∧Ix .ret xs W'
 | .exit id,_,W'=>(jX B W W'∧Kp W W')∧Ix (.exit id) xs W'
 | .goto t,_,W'=>(jX B W W'∧Kp W W')∧Ix (.goto t) xs W'
 | .panic _,_,_=>False
 | .outgrown,_,_=>False
section
variable{α:Type} {P:Program} {n:Nat} {encs:α→Array Value} {Kp:World→World→Prop} {I:List α→World→Prop} {Ix:Code→List α→World→Prop}
theorem NB {assign body:Code}{ps:Array Tmp}{tmps:Array Value}{fn:FuncId}{B:Nat}(r:Loop)(hr:r.state= .ready)(hpend:r.pending=none)(hrf:r.fn=fn)(hrt:r.tmps=tmps)(hrp:r.params=ps)(hra:r.assign=assign)(hrb:r.body=body)
  (hps: ∀x,(encs x).size=ps.size) (hKt: ∀ {A B C:World},Kp A B→Kp B C→Kp A C) (hKb: ∀(W:World) (o:Obj) (r:Loop),W.heap[B+1]?=some (.loop r)→Kp W (W.putObj (B+1) o))
  (hI:OwnFrom B I) (hIx: ∀c,OwnFrom B (Ix c)) (Ax:α→Act→World→Prop) (hAx: ∀x a',OwnFrom B (fun(_:Unit) W=>Ax x a' W)) {pre:List α} {x:α} {W:World} (hrec:Rcd (B+1) B r W) (hMW:B+2≤W.heap.size)
  (hassign: ∀(K:Act→World→Prop),(∀a' W',jX B W W'→Kp W W'→I pre W'→Ax x a' W'→K a' W')→
   assign.wpIn (Fence.wide.inRound (B+1)) n P (Exit.then K (fun _ _ _=>False)) {tmps:=(ps.zip (encs x)).foldl (fun t (p,v)=>t.setIfInBounds p v) tmps,defers:= []} W)
  (hbody: ∀(a':Act) (W:World),B+2≤W.heap.size→(∃r:Loop,Rcd (B+1) B r W)→I pre W→Ax x a' W→body.wpIn (Fence.wide.inRound (B+1)) n P (adn B Kp I Ix (pre++ [x]) W) a' W):
  Go.Proofs.YtacjklochmelfaaGreatDoor.Yields P (B+1) (encs x) W fun e W'=>(W.heap.size≤W'.heap.size∧Kp W W')∧((e= .returned (.bool true)∧I (pre++ [x]) W'∧Rcd (B+1) B r W')∨(e= .returned (.bool false)∧ ∃c,Ix c (pre++ [x]) W'∧Rcd (B+1) B {r with state:= .done,pending:=some c} W')):=by
 have hy:=run_yield (P:=P) (args:=encs x) hrec.lp (by rw[hrp];exact hps x);rw[hrf,hrt,hrp,hra,hrb] at hy;refine⟨fn,_,assign,body,hy,J1 (roundIn_of_wpIn (n:=n) trivial (hassign _ ?_))⟩;intro a' W1 hk1 hp1 hi1 hax;have r1:=hrec.kept2 hk1;refine⟨_,run_beginRound r1.lp hr,?_⟩;have r2:Rcd (B+1) B {r with state:= .busy} (W1.putObj (B+1) (.loop {r with state:= .busy})):=r1.put (by omega);refine wpIn_mono (hbody a' _ (by have:=hk1.size;simp;omega) ⟨_,r2⟩ (hI.putObj _ hi1 (Nat.le_succ _) r1.lp rfl) ((hAx x a').putObj (s:=()) _ hax (Nat.le_succ _) r1.lp rfl)) ?_
 have big: ∀(W3:World) (o:Obj),(jX B (W1.putObj (B+1) (.loop {r with state:= .busy})) W3∧Kp (W1.putObj (B+1) (.loop {r with state:= .busy})) W3)→
   Rcd (B+1) B {r with state:= .busy} W3∧(W.heap.size≤(W3.putObj (B+1) o).heap.size∧Kp W (W3.putObj (B+1) o)):=by
  intro W3 o ⟨k3,p3⟩;refine⟨r2.kept2 k3,?_,hKt hp1 (hKt (hKb _ _ _ r1.lp) (hKt p3 (hKb _ _ _ (r2.kept2 k3).lp)))⟩;have h1:=hk1.size;have h3:=k3.size;simp at h3⊢;omega
 rintro e a3 W3 hp
 cases e with
 |normal=>
  obtain⟨hk3,hi3⟩:=hp;obtain⟨r3,hb⟩:=big W3 _ hk3;refine⟨_,_,run_endRound none r3.lp,hb,Or.inl ⟨rfl,hI.putObj _ hi3 (Nat.le_succ _) r3.lp rfl,?_⟩⟩;have:=r3.put (r':= {{r with state:= .busy} with state:=if(none:Option Code).isNone then .ready else .done,pending:=none}) (by omega);have e:({{r with state:= .busy} with state:=if(none:Option Code).isNone then .ready else .done,pending:=none}:Loop)=r:=by cases r;simp_all
  rw[e] at this⊢;exact this
 |ret=>
  obtain⟨hk3,hi3⟩:=hp;obtain⟨r3,hb⟩:=big W3 _ hk3;exact⟨_,_,run_endRound (some .ret) r3.lp,hb,Or.inr ⟨rfl,.ret,(hIx _).putObj _ hi3 (Nat.le_succ _) r3.lp rfl,r3.put (by omega)⟩⟩
 |exit id=>
  obtain⟨hk3,hi3⟩:=hp;obtain⟨r3,hb⟩:=big W3 _ hk3;exact⟨_,_,run_endRound (some (.exit id)) r3.lp,hb,Or.inr ⟨rfl,.exit id,(hIx _).putObj _ hi3 (Nat.le_succ _) r3.lp rfl,r3.put (by omega)⟩⟩
 |goto t=>
  obtain⟨hk3,hi3⟩:=hp;obtain⟨r3,hb⟩:=big W3 _ hk3;exact⟨_,_,run_endRound (some (.goto t)) r3.lp,hb,Or.inr ⟨rfl,.goto t,(hIx _).putObj _ hi3 (Nat.le_succ _) r3.lp rfl,r3.put (by omega)⟩⟩
 |panic ch=>exact hp.elim
 |outgrown=>exact hp.elim
theorem QE {g:Operand}{ps:Array Tmp}{assign body:Code}{Q:Exit→Act→World→Prop}{a:Act}{w:World}{gf:Nat}{lb:Array Value}(hg:a.eval g= .func (.func gf) #[] lb)(eg: ∀args w,(callFunc gf args).run P w= .ok (.enter gf args) w)
  {Kq:Nat→World→World→Prop} {S Sp:List α→Prop} {N:Nat} {w0:World} (hseq:aau P gf lb encs Kq S Sp N w0) (hKq: ∀ {A B:World},Kp A B→Kq (w.heap.size+2) A B) (hb0:Below w0.heap.size w0 w) (hps: ∀x,(encs x).size=ps.size) (hKt: ∀ {A B C:World},Kp A B→Kp B C→Kp A C) (hKb: ∀(W:World) (o:Obj) (r:Loop),W.heap[w.heap.size+1]?=some (.loop r)→Kp W (W.putObj (w.heap.size+1) o))
  (I:List α→World→Prop) (Ix:Code→List α→World→Prop) (hI:OwnFrom w.heap.size I) (hIx: ∀c,OwnFrom w.heap.size (Ix c)) (h0: ∀V,Below w.heap.size w V→w.heap.size+2≤V.heap.size→I [] V) (Ax:α→Act→World→Prop) (hAx: ∀x a',OwnFrom w.heap.size (fun(_:Unit) W=>Ax x a' W))
  (hassign: ∀(l:Nat) (pre:List α) (x:α) (W:World) (K:Act→World→Prop),w.heap.size+2≤W.heap.size→(∃r:Loop,Rcd (w.heap.size+1) w.heap.size r W)→I pre W→(∀a' W',jX w.heap.size W W'→Kp W W'→I pre W'→Ax x a' W'→K a' W')→
   assign.wpIn (Fence.wide.inRound l) 0 P (Exit.then K (fun _ _ _=>False)) {tmps:=(ps.zip (encs x)).foldl (fun t (p,v)=>t.setIfInBounds p v) a.tmps,defers:= []} W)
  (hbody: ∀(l:Nat) (pre:List α) (x:α) (a':Act) (W:World),w.heap.size+2≤W.heap.size→(∃r:Loop,Rcd (w.heap.size+1) w.heap.size r W)→I pre W→Ax x a' W→pre.length<N→body.wpIn (Fence.wide.inRound l) 0 P (adn w.heap.size Kp I Ix (pre++ [x]) W) a' W)
  (hdone: ∀(D:Nat) (xs:List α) (W:World),w.heap.size≤D→S xs→I xs W→W.heap[D]?=some (.deferred (some []))→Q .normal {a with defers:= {target:= .collected D,args:= #[]}::a.defers} W)
  (hstop: ∀(D:Nat) (c:Code) (pre:List α) (W:World),w.heap.size≤D→Sp pre→Ix c pre W→W.heap[D]?=some (.deferred (some []))→c.wpIn Fence.wide n P Q {a with defers:= {target:= .collected D,args:= #[]}::a.defers} W):
  (Code.rangeFunc g ps assign body).wpIn Fence.wide n P Q a w:=by
 refine wpIn_rangeFunc ?_;intro fn _;obtain⟨r,hr⟩: ∃r:Loop,r= {state:= .ready,pending:=none,fn,tmps:=a.tmps,params:=ps,assign,body,defers:=w.heap.size}:=⟨_,rfl⟩;obtain⟨z,z1,z2⟩:=zN w (.deferred (some [])) (.loop r);have hR0:Rcd (w.heap.size+1) w.heap.size r ((w.alloc (.deferred (some []))).alloc (.loop r)):=⟨z2,z1⟩;have hBw:Below w.heap.size w ((w.alloc (.deferred (some []))).alloc (.loop r)):=((Below.refl _ w).alloc (Nat.le_refl _) _).alloc (by simp) _
 have hB0:Below w0.heap.size w0 ((w.alloc (.deferred (some []))).alloc (.loop r)):=hb0.trans (hBw.mono hb0.size);refine⟨w.heap.size+1,[{target:= .collected w.heap.size,args:= #[]}],(w.alloc (.deferred (some []))).alloc (.loop r),{target:= .fn (.func gf) lb,args:= #[.func (.yield (w.heap.size+1)) #[] #[]]},(w.alloc (.deferred (some []))).alloc (.loop r),gf,
  #[.func (.yield (w.heap.size+1)) #[] #[]]++lb,(w.alloc (.deferred (some []))).alloc (.loop r),by rw[hr];exact run_enterLoop_outer _ _ _ _ _,?_,(fun _ _=>trivial),?_,(fun h=>by cases h),?_⟩
 ·simp only[resolve,hg];simp[go_sem]
 ·simp[invoke,go_sem,eg]
 generalize (w.alloc (.deferred (some []))).alloc (.loop r)=W1 at*;have hcall:=hseq (w.heap.size+1) (fun pre W=>I pre W∧Rcd (w.heap.size+1) w.heap.size r W)
  (fun pre W=> ∃c,Ix c pre W∧Rcd (w.heap.size+1) w.heap.size {r with state:= .done,pending:=some c} W) W1 hB0
  (fun s A C row hs hg' hr'=>⟨hI s A C row hs.1 hg' (fun q e=>⟨by have:=(hr' q e).1;omega,(hr' q e).2⟩),Rcd.own (B:=W1.heap.size) (by omega) (by omega) () A C row hs.2 hg' hr'⟩)
  (fun s A C row hs hg' hr'=>by
   obtain⟨c,hc,hrc⟩:=hs;exact⟨c,hIx c s A C row hc hg' (fun q e=>⟨by have:=(hr' q e).1;omega,(hr' q e).2⟩),Rcd.own (B:=W1.heap.size) (by omega) (by omega) () A C row hrc hg' hr'⟩)
  (by
   intro pre x V hMV hJ hlen
   obtain⟨hi,hrec⟩:=hJ
   have hround:=NB (n:=0) (P:=P) (encs:=encs) (Kp:=Kp) (I:=I) (Ix:=Ix) (ps:=ps) (assign:=assign) (body:=body) (tmps:=a.tmps) (fn:=fn) (B:=w.heap.size) r (by rw[hr]) (by rw[hr]) (by rw[hr]) (by rw[hr]) (by rw[hr]) (by rw[hr]) (by rw[hr]) hps hKt hKb hI hIx Ax hAx (pre:=pre) (x:=x) hrec (by omega)
    (fun K hK=>hassign _ pre x V K (by omega) ⟨_,hrec⟩ hi hK) (fun a' W hMW hrc' hi' hax=>hbody _ pre x a' W hMW hrc' hi' hax hlen)
   obtain⟨f',t',as',bo',hy,hR⟩:=hround
   refine⟨f',t',as',bo',hy,hR.mono ?_⟩
   rintro e V' ⟨⟨hk,hp⟩,hres⟩
   refine⟨⟨hk,by rw[z];exact hKq hp⟩,?_⟩
   rcases hres with⟨he,hi',hr'⟩|⟨he,hx⟩
   ·exact Or.inl ⟨he,hi',hr'⟩
   ·exact Or.inr ⟨he,hx⟩)
  (fun V hV=>⟨h0 V (hBw.trans (hV.mono (by omega))) (by have:=hV.size;omega),⟨(hV.block _ (by omega)).trans hR0.lp,(hV.block _ (by omega)).trans hR0.df⟩⟩)
 refine(callsIn_wide.2 (callsIn_wide.1 hcall)).mono ?_;rintro e W2 ⟨⟨v,rfl⟩,(⟨xs,hS,hi,hrc⟩|⟨pre,hSp,c,hi,hrc⟩)⟩
 ·refine⟨_,_,run_endLoop hrc.lp (by rw[hr];simp),?_⟩;rw[show r.pending=none by rw[hr]];exact hdone _ xs _ (Nat.le_refl _) hS (hI.putObj _ hi (Nat.le_succ _) hrc.lp rfl) ((World.putObj_heap_other (by omega)).trans hrc.df)
 ·exact⟨_,_,run_endLoop hrc.lp (by simp),hstop _ c pre _ (Nat.le_refl _) hSp ((hIx c).putObj _ hi (Nat.le_succ _) hrc.lp rfl) ((World.putObj_heap_other (by omega)).trans hrc.df)⟩
end
section
variable{α:Type} {P:Program} {n:Nat} {encs:α→Array Value} {Kp:World→World→Prop}
theorem QD {g:Operand}{ps:Array Tmp}{assign body:Code}{Q:Exit→Act→World→Prop}{a:Act}{w:World}{gf:Nat}{lb:Array Value}(hg:a.eval g= .func (.func gf) #[] lb)(eg: ∀args w,(callFunc gf args).run P w= .ok (.enter gf args) w)
  {Kq:Nat→World→World→Prop} {S Sp:List α→Prop} {N:Nat} {w0:World} (hseq:adv P gf lb encs Kq S Sp N w0) (hKq: ∀ {A B:World},Kp A B→Kq (w.heap.size+2) A B) (hb0:Below w0.heap.size w0 w) (hps: ∀x,(encs x).size=ps.size) (hKt: ∀ {A B C:World},Kp A B→Kp B C→Kp A C) (hKb: ∀(W:World) (o:Obj) (r:Loop),W.heap[w.heap.size+1]?=some (.loop r)→Kp W (W.putObj (w.heap.size+1) o))
  (I:Nat→List α→World→Prop) (Ix:Nat→Code→List α→World→Prop) (hI: ∀M,OwnFrom w.heap.size (I M)) (hIx: ∀M c,OwnFrom w.heap.size (Ix M c)) (hIF: ∀M,NR (w.heap.size+2) M (I M)) (hIxF: ∀M c,NR (w.heap.size+2) M (Ix M c)) (h0: ∀V,Below w.heap.size w V→w.heap.size+2≤V.heap.size→I V.heap.size [] V) (Ax:α→Act→World→Prop) (hAx: ∀x a',OwnFrom w.heap.size (fun(_:Unit) W=>Ax x a' W))
  (hassign: ∀(M l:Nat) (pre:List α) (x:α) (W:World) (K:Act→World→Prop),w.heap.size+2≤M→M≤W.heap.size→I M pre W→(∀a' W',qe w.heap.size M W W'→Kp W W'→I M pre W'→Ax x a' W'→K a' W')→
   assign.wpIn (Fence.wide.inRound l) 0 P (Exit.then K (fun _ _ _=>False)) {tmps:=(ps.zip (encs x)).foldl (fun t (p,v)=>t.setIfInBounds p v) a.tmps,defers:= []} W)
  (hbody: ∀(M l:Nat) (pre:List α) (x:α) (a':Act) (W:World),w.heap.size+2≤M→M≤W.heap.size→I M pre W→Ax x a' W→pre.length<N→body.wpIn (Fence.wide.inRound l) 0 P (Left w.heap.size M Kp (I M) (Ix M) (pre++ [x]) W) a' W)
  (hdone: ∀(M D:Nat) (xs:List α) (W:World),w.heap.size≤D→S xs→I M xs W→W.heap[D]?=some (.deferred (some []))→Q .normal {a with defers:= {target:= .collected D,args:= #[]}::a.defers} W)
  (hstop: ∀(M D:Nat) (c:Code) (pre:List α) (W:World),w.heap.size≤D→Sp pre→Ix M c pre W→W.heap[D]?=some (.deferred (some []))→c.wpIn Fence.wide n P Q {a with defers:= {target:= .collected D,args:= #[]}::a.defers} W):
  (Code.rangeFunc g ps assign body).wpIn Fence.wide n P Q a w:=by
 refine wpIn_rangeFunc ?_;intro fn _;obtain⟨r,hr⟩: ∃r:Loop,r= {state:= .ready,pending:=none,fn,tmps:=a.tmps,params:=ps,assign,body,defers:=w.heap.size}:=⟨_,rfl⟩;obtain⟨z,z1,z2⟩:=zN w (.deferred (some [])) (.loop r);have hR0:Rcd (w.heap.size+1) w.heap.size r ((w.alloc (.deferred (some []))).alloc (.loop r)):=⟨z2,z1⟩;have hBw:Below w.heap.size w ((w.alloc (.deferred (some []))).alloc (.loop r)):=((Below.refl _ w).alloc (Nat.le_refl _) _).alloc (by simp) _
 have hB0:Below w0.heap.size w0 ((w.alloc (.deferred (some []))).alloc (.loop r)):=hb0.trans (hBw.mono hb0.size);refine⟨w.heap.size+1,[{target:= .collected w.heap.size,args:= #[]}],(w.alloc (.deferred (some []))).alloc (.loop r),{target:= .fn (.func gf) lb,args:= #[.func (.yield (w.heap.size+1)) #[] #[]]},(w.alloc (.deferred (some []))).alloc (.loop r),gf,
  #[.func (.yield (w.heap.size+1)) #[] #[]]++lb,(w.alloc (.deferred (some []))).alloc (.loop r),by rw[hr];exact run_enterLoop_outer _ _ _ _ _,?_,(fun _ _=>trivial),?_,(fun h=>by cases h),?_⟩
 ·simp only[resolve,hg];simp[go_sem]
 ·simp[invoke,go_sem,eg]
 generalize (w.alloc (.deferred (some []))).alloc (.loop r)=W1 at*;have hcall:=hseq (w.heap.size+1) (fun M pre W=>I M pre W∧Rcd (w.heap.size+1) w.heap.size r W)
  (fun M pre W=> ∃c,Ix M c pre W∧Rcd (w.heap.size+1) w.heap.size {r with state:= .done,pending:=some c} W) W1 hB0
  (fun M s A C row hs hg' hr'=>⟨hI M s A C row hs.1 hg' (fun q e=>⟨by have:=(hr' q e).1;omega,(hr' q e).2⟩),Rcd.own (B:=W1.heap.size) (by omega) (by omega) () A C row hs.2 hg' hr'⟩)
  (fun M s A C row hs hg' hr'=>by
   obtain⟨c,hc,hrc⟩:=hs;exact⟨c,hIx M c s A C row hc hg' (fun q e=>⟨by have:=(hr' q e).1;omega,(hr' q e).2⟩),Rcd.own (B:=W1.heap.size) (by omega) (by omega) () A C row hrc hg' hr'⟩)
  (fun M s A C hs hc hm=>⟨hIF M s A C hs.1 (by rw[z] at hc;exact hc) hm,⟨(hc.block _ (gLt hs.2.lp) (by omega)).trans hs.2.lp,(hc.block _ (gLt hs.2.df) (by omega)).trans hs.2.df⟩⟩)
  (fun M s A C hs hc hm=>by
   obtain⟨c,h1,h2⟩:=hs;exact⟨c,hIxF M c s A C h1 (by rw[z] at hc;exact hc) hm,⟨(hc.block _ (gLt h2.lp) (by omega)).trans h2.lp,(hc.block _ (gLt h2.df) (by omega)).trans h2.df⟩⟩)
  (by
   intro M pre x V hM hMV hJ hlen
   obtain⟨hi,hrec⟩:=hJ
   have hround:=aa7 (n:=0) (P:=P) (encs:=encs) (Kp:=Kp) (I:=I M) (Ix:=Ix M) (ps:=ps) (assign:=assign) (body:=body) (tmps:=a.tmps) (fn:=fn) (B:=w.heap.size) (M:=M) r (by rw[hr]) (by rw[hr]) (by rw[hr]) (by rw[hr]) (by rw[hr]) (by rw[hr]) (by rw[hr]) (by omega) hps hKt hKb (hI M) (hIx M) Ax hAx (pre:=pre) (x:=x) hrec hMV
    (fun K hK=>hassign M _ pre x V K (by omega) hMV hi hK) (fun a' W hMW hi' hax=>hbody M _ pre x a' W (by omega) hMW hi' hax hlen)
   obtain⟨f',t',as',bo',hy,hR⟩:=hround
   refine⟨f',t',as',bo',hy,hR.mono ?_⟩
   rintro e V' ⟨⟨hk,hp⟩,hres⟩
   refine⟨⟨hk.sub (by omega) (Nat.le_refl _),by rw[z];exact hKq hp⟩,?_⟩
   rcases hres with⟨he,hi',hr'⟩|⟨he,hx⟩
   ·exact Or.inl ⟨he,hi',hr'⟩
   ·exact Or.inr ⟨he,hx⟩)
  (fun V hV=>⟨h0 V (hBw.trans (hV.mono (by omega))) (by have:=hV.size;omega),⟨(hV.block _ (by omega)).trans hR0.lp,(hV.block _ (by omega)).trans hR0.df⟩⟩)
 refine(callsIn_wide.2 (callsIn_wide.1 hcall)).mono ?_;rintro e W2 ⟨⟨v,rfl⟩,(⟨M,xs,hS,hi,hrc⟩|⟨M,pre,hSp,c,hi,hrc⟩)⟩
 ·refine⟨_,_,run_endLoop hrc.lp (by rw[hr];simp),?_⟩;rw[show r.pending=none by rw[hr]];exact hdone M _ xs _ (Nat.le_refl _) hS ((hI M).putObj _ hi (Nat.le_succ _) hrc.lp rfl) ((World.putObj_heap_other (by omega)).trans hrc.df)
 ·exact⟨_,_,run_endLoop hrc.lp (by simp),hstop M _ c pre _ (Nat.le_refl _) hSp ((hIx M c).putObj _ hi (Nat.le_succ _) hrc.lp rfl) ((World.putObj_heap_other (by omega)).trans hrc.df)⟩
end
attribute [local go_sem] Oper.semAt_some
def qd (K:Nat→Prop) (W W':World):Prop:= ∀k,K k→W'.heap[k]?=W.heap[k]?
theorem qd.trans {K:Nat→Prop}{A B C:World}(h:qd K A B)(k:qd K B C):qd K A C:=fun i hi=>(k i hi).trans (h i hi)
theorem qd.cell {K:Nat→Prop}{W W':World}(h:qd K W W'){p:Addr}(hp:K p.block):W'.cell? p=W.cell? p:=World.cell?_of_block (h _ hp)
attribute [local go_sem] Oper.semAt_some
def pcN (L m:Nat):Nat:=(L+m-1)/m
def pcE (L m x:Nat):Nat:=min (m*x+m) L
theorem JH {L m x:Nat}(hm:0<m)(h:x<pcN L m):m*x<L:=by
 unfold pcN at h;have:=(Nat.lt_div_iff_mul_lt hm).1 h;rw[Nat.mul_comm] at this;omega
theorem aaa {L m:Nat}(hm:0<m):L≤m*pcN L m:=by
 unfold pcN;have:=Nat.lt_mul_div_succ (L+m-1) hm;rw[Nat.mul_add] at this;omega
def VR (S b off cap L m:Nat) {K:Nat} (x:Fin K):Array Value:= #[.slice (some ⟨b,off+m*x.val*S,none⟩) (pcE L m x.val-m*x.val) (cap-m*x.val)]
theorem Vv (w:World)(ao:Option Addr)(n cap:Nat)(m:Int):
  Calls Tryz.prog 95 #[.slice ao n cap,za m] w fun e w'=>
   e= .returned (.func (.func 119) #[] #[.pointer (some (zd w.heap.size)),.pointer (some (zd (w.heap.size+1)))])∧w'=(w.alloc (.cells #[.slice ao n cap] 33)).alloc (.cells #[za m] 3):=by
 go_enter Tryz.func95,Tryz.ntmps95;go_wp2;go_ret;exact⟨rfl,rfl⟩
theorem En (Bd Bn b off cap L:Nat)(ao:Option Addr)(w:World)(hL:L≤100000)(hcap:L≤cap)(hao:0<L→ao=some ⟨b,off,none⟩)
  (hd:w.cell? (zd Bd)=some (.slice ao L cap)) (hn:w.cell? (zd Bn)=some (za 26)):
  aau Tryz.prog 119 #[.pointer (some (zd Bd)),.pointer (some (zd Bn))] (VR 1 b off cap L 26 (K:=pcN L 26)) (fun _=>qd fun k=>k=Bd∨k=Bn)
   (fun xs=>xs.map Fin.val=List.range (pcN L 26)) (fun pre=>pre.map Fin.val=List.range pre.length) (pcN L 26) w:=fun l J Jx W hW hJ hJx hY h0=>by
 have hd2:W.cell? (zd Bd)=some (.slice ao L cap):=(hW.cell (p:=(zd Bd)) (zF hd)).trans hd
 have hn2:W.cell? (zd Bn)=some (za 26):=(hW.cell (p:=(zd Bn)) (zF hn)).trans hn
 have hJ0:=h0 W (Below.refl _ _)
 have HAo:Hid (0<L→ao=some ⟨b,off,none⟩):=hao
 clear h0 hd hn hW hJ hJx hao
 refine callsIn_of_wp Tryz.func119 rfl trivial ?_ rfl
 simp only[Tryz.ntmps119,List.size_toArray,List.length_cons,List.length_nil,Nat.reduceAdd,Nat.reduceSub,Array.replicate_succ,Array.replicate_zero,List.push_toArray,List.append_toArray,List.nil_append,List.cons_append]
 gi_wp2
 gi_loopw [4] (fun x wr=> ∃(i:Nat) (pre:List (Fin (pcN L 26))),x=za ((26*i:Nat):Int)∧i≤pcN L 26∧pre.map Fin.val=List.range i∧W.heap.size≤wr.heap.size∧wr.cell? (zd Bd)=some (.slice ao L cap)∧wr.cell? (zd Bn)=some (za 26)∧J pre wr)
  (fun x _=>L+26-(intOf x).toNat)
 case atStart=>exact⟨0,[],rfl,Nat.zero_le _,rfl,Nat.le_refl _,hd2,hn2,hJ0⟩
 case round=>
  clear hd2 hn2 hJ0
  obtain⟨i,pre,rfl,hi,hpre,hsz,hd,hn,hJp⟩:=hrel
  have hplen:pre.length=i:=by have:=congrArg List.length hpre;simpa using this
  by_cases hlt:i<pcN L 26
  ·have hqL:=JH (m:=26) (by omega) hlt
   obtain rfl:=HAo.out (by omega)
   obtain⟨fn,tmps,assign,body,hy,hR⟩:=hY pre ⟨i,hlt⟩ wr hsz hJp (by omega)
   unfold VR at hy
   simp only[Nat.mul_one] at hy
   have Hpre:Hid (pre.map Fin.val=List.range i):=hpre
   obtain⟨q,hq⟩: ∃q,q=26*i:=⟨_,rfl⟩
   have Hq:Hid (q=26*i):=hq
   obtain⟨E,hE⟩: ∃E,E=pcE L 26 i:=⟨_,rfl⟩
   have eM:(if(L:Int)<(q:Int)+26 then(L:Int) else(q:Int)+26)=(E:Int):=by rw[hE,hq];unfold pcE;split<;>omega
   have hEq:q<E:=by rw[hE,hq];unfold pcE;omega
   have hEL:E≤L:=by rw[hE];unfold pcE;omega
   rw[←hE,←hq] at hy
   rw[←hq] at hqL⊢
   have e1:(q:Int)<(L:Int):=by omega
   have e2:(q:Int)≤(E:Int):=by omega
   have e3:(E:Int)≤(cap:Int):=by omega
   have e4: ¬cap=q:=by omega
   have e5: ¬cap<E:=by omega
   have e6: ¬E<q:=by omega
   clear hY hpre hq hE hi hplen HAo
   gi_wp2
   refine⟨rfl,hR.mono ?_⟩
   rintro e V ⟨⟨hkm,hkp⟩,(⟨rfl,hJ3⟩|⟨rfl,hJx3⟩)⟩
   ·have hd3:V.cell? (zd Bd)=some (.slice (some ⟨b,off,none⟩) L cap):=(hkp.cell (p:=(zd Bd)) (Or.inl rfl)).trans hd
    have hn3:V.cell? (zd Bn)=some (za 26):=(hkp.cell (p:=(zd Bn)) (Or.inr rfl)).trans hn
    have hs3:=Nat.le_trans hsz hkm
    clear hR hy hd hn hkm hkp hJp hsz eM
    gi_wp2
    go_roundw
    case rel=>exact⟨i+1,pre++ [⟨i,hlt⟩],by have:=Hq.out;congr 1;omega,hlt,by rw[List.map_append,Hpre.out,List.range_succ];rfl,hs3,hd3,hn3,hJ3⟩
    case measure=>simp[intOf];omega
   ·gi_wp2
    refine bodyPost_ret (results_none rfl _ _ _) rfl ?_
    refine⟨⟨_,rfl⟩,.inr ⟨pre++ [⟨i,hlt⟩],?_,hJx3⟩⟩
    have hl:pre.length=i:=by have:=congrArg List.length Hpre.out;simpa using this
    rw[List.map_append,Hpre.out,List.length_append,hl]
    exact List.range_succ.symm
  ·obtain rfl:i=pcN L 26:=by omega
   have Hpre:Hid (pre.map Fin.val=List.range (pcN L 26)):=hpre
   have hge:=aaa (L:=L) (m:=26) (by omega)
   have e1: ¬(((26*pcN L 26:Nat):Int)<(L:Int)):=by omega
   generalize 26*pcN L 26=Q at*
   clear hY hpre hplen
   gi_wp2
   go_end0
   exact⟨⟨_,rfl⟩,.inl ⟨pre,Hpre.out,hJp⟩⟩
theorem Vu (w:World)(ao:Option Addr)(n cap:Nat)(m:Int):
  Calls Tryz.prog 98 #[.slice ao n cap,za m] w fun e w'=>
   e= .returned (.func (.func 120) #[] #[.pointer (some (zd w.heap.size)),.pointer (some (zd (w.heap.size+1)))])∧w'=(w.alloc (.cells #[.slice ao n cap] 32)).alloc (.cells #[za m] 3):=by
 go_enter Tryz.func98,Tryz.ntmps98;go_wp2;go_ret;exact⟨rfl,rfl⟩
theorem Em (Bd Bn b off cap L:Nat)(ao:Option Addr)(w:World)(hL:L≤100000)(hcap:L≤cap)(hao:0<L→ao=some ⟨b,off,none⟩)
  (hd:w.cell? (zd Bd)=some (.slice ao L cap)) (hn:w.cell? (zd Bn)=some (za 17)):
  aau Tryz.prog 120 #[.pointer (some (zd Bd)),.pointer (some (zd Bn))] (VR 2 b off cap L 17 (K:=pcN L 17)) (fun _=>qd fun k=>k=Bd∨k=Bn)
   (fun xs=>xs.map Fin.val=List.range (pcN L 17)) (fun pre=>pre.map Fin.val=List.range pre.length) (pcN L 17) w:=fun l J Jx W hW hJ hJx hY h0=>by
 have hd2:W.cell? (zd Bd)=some (.slice ao L cap):=(hW.cell (p:=(zd Bd)) (zF hd)).trans hd
 have hn2:W.cell? (zd Bn)=some (za 17):=(hW.cell (p:=(zd Bn)) (zF hn)).trans hn
 have hJ0:=h0 W (Below.refl _ _)
 have HAo:Hid (0<L→ao=some ⟨b,off,none⟩):=hao
 clear h0 hd hn hW hJ hJx hao
 refine callsIn_of_wp Tryz.func120 rfl trivial ?_ rfl
 simp only[Tryz.ntmps120,List.size_toArray,List.length_cons,List.length_nil,Nat.reduceAdd,Nat.reduceSub,Array.replicate_succ,Array.replicate_zero,List.push_toArray,List.append_toArray,List.nil_append,List.cons_append]
 gi_wp2
 gi_loopw [4] (fun x wr=> ∃(i:Nat) (pre:List (Fin (pcN L 17))),x=za ((17*i:Nat):Int)∧i≤pcN L 17∧pre.map Fin.val=List.range i∧W.heap.size≤wr.heap.size∧wr.cell? (zd Bd)=some (.slice ao L cap)∧wr.cell? (zd Bn)=some (za 17)∧J pre wr)
  (fun x _=>L+17-(intOf x).toNat)
 case atStart=>exact⟨0,[],rfl,Nat.zero_le _,rfl,Nat.le_refl _,hd2,hn2,hJ0⟩
 case round=>
  clear hd2 hn2 hJ0
  obtain⟨i,pre,rfl,hi,hpre,hsz,hd,hn,hJp⟩:=hrel
  have hplen:pre.length=i:=by have:=congrArg List.length hpre;simpa using this
  by_cases hlt:i<pcN L 17
  ·have hqL:=JH (m:=17) (by omega) hlt
   obtain rfl:=HAo.out (by omega)
   obtain⟨fn,tmps,assign,body,hy,hR⟩:=hY pre ⟨i,hlt⟩ wr hsz hJp (by omega)
   unfold VR at hy
   simp only at hy
   have Hpre:Hid (pre.map Fin.val=List.range i):=hpre
   obtain⟨q,hq⟩: ∃q,q=17*i:=⟨_,rfl⟩
   have Hq:Hid (q=17*i):=hq
   obtain⟨E,hE⟩: ∃E,E=pcE L 17 i:=⟨_,rfl⟩
   have eM:(if(L:Int)<(q:Int)+17 then(L:Int) else(q:Int)+17)=(E:Int):=by rw[hE,hq];unfold pcE;split<;>omega
   have hEq:q<E:=by rw[hE,hq];unfold pcE;omega
   have hEL:E≤L:=by rw[hE];unfold pcE;omega
   rw[←hE,←hq] at hy
   rw[←hq] at hqL⊢
   have e1:(q:Int)<(L:Int):=by omega
   have e2:(q:Int)≤(E:Int):=by omega
   have e3:(E:Int)≤(cap:Int):=by omega
   have e4: ¬cap=q:=by omega
   have e5: ¬cap<E:=by omega
   have e6: ¬E<q:=by omega
   clear hY hpre hq hE hi hplen HAo
   gi_wp2
   refine⟨rfl,hR.mono ?_⟩
   rintro e V ⟨⟨hkm,hkp⟩,(⟨rfl,hJ3⟩|⟨rfl,hJx3⟩)⟩
   ·have hd3:V.cell? (zd Bd)=some (.slice (some ⟨b,off,none⟩) L cap):=(hkp.cell (p:=(zd Bd)) (Or.inl rfl)).trans hd
    have hn3:V.cell? (zd Bn)=some (za 17):=(hkp.cell (p:=(zd Bn)) (Or.inr rfl)).trans hn
    have hs3:=Nat.le_trans hsz hkm
    clear hR hy hd hn hkm hkp hJp hsz eM
    gi_wp2
    go_roundw
    case rel=>exact⟨i+1,pre++ [⟨i,hlt⟩],by have:=Hq.out;congr 1;omega,hlt,by rw[List.map_append,Hpre.out,List.range_succ];rfl,hs3,hd3,hn3,hJ3⟩
    case measure=>simp[intOf];omega
   ·gi_wp2
    refine bodyPost_ret (results_none rfl _ _ _) rfl ?_
    refine⟨⟨_,rfl⟩,.inr ⟨pre++ [⟨i,hlt⟩],?_,hJx3⟩⟩
    have hl:pre.length=i:=by have:=congrArg List.length Hpre.out;simpa using this
    rw[List.map_append,Hpre.out,List.length_append,hl]
    exact List.range_succ.symm
  ·obtain rfl:i=pcN L 17:=by omega
   have Hpre:Hid (pre.map Fin.val=List.range (pcN L 17)):=hpre
   have hge:=aaa (L:=L) (m:=17) (by omega)
   have e1: ¬(((17*pcN L 17:Nat):Int)<(L:Int)):=by omega
   generalize 17*pcN L 17=Q at*
   clear hY hpre hplen
   gi_wp2
   go_end0
   exact⟨⟨_,rfl⟩,.inl ⟨pre,Hpre.out,hJp⟩⟩
end Go.Proofs.YtacjklochmelfaaGreatDoor
