import Derived.Test.YtacjklochmelfaaGreatDoorTagOwn
import Derived.Test.YtacjklochmelfaaGreatDoorImplPcs
import Derived.Test.YtacjklochmelfaaGreatDoorSurvLast
import Derived.Test.YtacjklochmelfaaGreatDoorAs
import Derived.Test.YtacjklochmelfaaGreatDoorJReadC
import Derived.Test.YtacjklochmelfaaGreatDoorRowsE
import Derived.Test.YtacjklochmelfaaGreatDoorWeak
import Derived.Test.YtacjklochmelfaaGreatDoorRows
import Derived.Test.YtacjklochmelfaaGreatDoorCells2
namespace Go.Proofs.YtacjklochmelfaaGreatDoor
open Go.RowKit
set_option maxRecDepth 100000
set_option maxHeartbeats 16000000
theorem N9 {L m:Nat}(hm:0<m)(h:0<L):pcN L m=pcN (L-m) m+1:=by
 unfold pcN;by_cases hl:m≤L
 ·rw[show L+m-1=(L-m+m-1)+m by omega,Nat.add_div_right _ hm]
 ·rw[show L-m=0 by omega,Nat.div_eq_of_lt (show 0+m-1<m by omega),show L+m-1=(L-1)+m by omega,Nat.add_div_right _ hm,Nat.div_eq_of_lt (by omega)]
theorem aab {m:Nat}(hm:0<m):pcN 0 m=0:=by unfold pcN;exact Nat.div_eq_of_lt (by omega)
theorem Jk {α:Type}(n:Nat)(xs:List α):(jY n xs).length=pcN xs.length n:=Um n xs
theorem N8 {α:Type}(m x:Nat)(xs:List α):((xs.drop (m*x)).take m).length=pcE xs.length m x-m*x:=by
 rw[List.length_take,List.length_drop];unfold pcE;omega
theorem Nm {L m x:Nat}:pcE L m x-m*x≤m:=by unfold pcE;omega
theorem Ut (q:Int)(n:Nat): ∀(hs:List Wr),hs.length≤n→((jY 17 hs).flatMap (zG q)).length=hs.length+pcN hs.length 17:=by
 induction n with
 |zero=>
  intro hs h;obtain rfl:hs= []:=List.eq_nil_of_length_eq_zero (by omega);rw[Zm 17 (by omega),List.length_nil,aab (by omega)];rfl
 |succ n ih=>
  intro hs h;by_cases h0:0<hs.length
  ·rw[Zl 17 (by omega) h0,List.flatMap_cons,List.length_append,ih (hs.drop 17) (by rw[List.length_drop];omega),N9 (by omega) h0,List.length_drop];unfold zG;rw[List.length_cons,List.length_map,List.length_take];omega
  ·obtain rfl:hs= []:=List.eq_nil_of_length_eq_zero (by omega);rw[Zm 17 (by omega),List.length_nil,aab (by omega)];rfl
theorem ES (q:Int)(hs:List Wr)(rs:List Int):(BL q hs rs).length=pcN rs.length 26+(hs.length+pcN hs.length 17):=by
 unfold BL;rw[List.length_append,List.length_map,Jk,Ut q hs.length hs (Nat.le_refl _)]
theorem aat (q:Int)(hs:List Wr)(rs:List Int){x:Nat}(hx:x<pcN rs.length 26):(BL q hs rs).getD x []=Qh q ((rs.drop (26*x)).take 26):=by
 unfold BL;rw[List.getD_eq_getElem?_getD,List.getElem?_append_left (by rw[List.length_map,Jk];exact hx),List.getElem?_map];unfold jY;have hx':x<(rs.length+26-1)/26:=hx;rw[List.getElem?_map,List.getElem?_range hx'];rfl
theorem acP (q:Int)(x:Nat): ∀(hs:List Wr) {j:Nat},x<pcN hs.length 17→j≤pcE hs.length 17 x-17*x→((jY 17 hs).flatMap (zG q)).getD (18*x+j) []=(zG q ((hs.drop (17*x)).take 17)).getD j []:=by
 induction x with
 |zero=>
  intro hs j hx hj;have h0:=JH (m:=17) (by omega) hx;rw[Zl 17 (by omega) (by omega),List.flatMap_cons,List.getD_eq_getElem?_getD,List.getD_eq_getElem?_getD,List.getElem?_append_left]
  ·simp
  ·unfold zG;unfold pcE at hj;rw[List.length_cons,List.length_map,List.length_take];omega
 |succ x ih=>
  intro hs j hx hj;have h0:=JH (m:=17) (by omega) hx;have hd:(zG q (hs.take 17)).length=18:=by unfold zG;rw[List.length_cons,List.length_map,List.length_take];omega
  have hp:=N9 (L:=hs.length) (m:=17) (by omega) (by omega);have:=ih (hs.drop 17) (j:=j) (by rw[List.length_drop];omega) (by rw[List.length_drop];unfold pcE at hj⊢;omega);rw[Zl 17 (by omega) (by omega),List.flatMap_cons,List.getD_eq_getElem?_getD,List.getElem?_append_right (by rw[hd];omega),hd,show 18*(x+1)+j-18=18*x+j by omega,←List.getD_eq_getElem?_getD,this,List.drop_drop,show 17+17*x=17*(x+1) by omega]
theorem ER (q:Int)(hs:List Wr)(rs:List Int){x j:Nat}(hx:x<pcN hs.length 17)(hj:j≤pcE hs.length 17 x-17*x):(BL q hs rs).getD (pcN rs.length 26+18*x+j) []=(zG q ((hs.drop (17*x)).take 17)).getD j []:=by
 unfold BL;rw[List.getD_eq_getElem?_getD,List.getElem?_append_right (by rw[List.length_map,Jk];omega),List.length_map,Jk,show pcN rs.length 26+18*x+j-pcN rs.length 26=18*x+j by omega,←List.getD_eq_getElem?_getD];exact acP q x hs hx hj
theorem adJ {H K1 x j:Nat}(hx:x<pcN H 17)(hj:j≤pcE H 17 x-17*x):K1+18*x+j<K1+(H+pcN H 17):=by
 have h0:=JH (m:=17) (by omega) hx;unfold pcE at hj;omega
def plc (K1 H x:Nat):List Nat:=(List.range (pcE H 17 x-17*x+1)).map (K1+18*x+ ·)
theorem KI (a b:Nat):List.range a++(List.range b).map (a+ ·)=List.range (a+b):=(List.range_add).symm
theorem aac {K1 H:Nat}(m:Nat)(hm:m≤pcN H 17):List.range K1++(List.range m).flatMap (plc K1 H)=List.range (K1+min (18*m) (H+pcN H 17)):=by
 induction m with
 |zero=>simp
 |succ m ih=>
  have h0:=JH (m:=17) (by omega) (show m<pcN H 17 by omega);have hge:=aaa (L:=H) (m:=17) (by omega);rw[List.range_succ,List.flatMap_append,←List.append_assoc,ih (by omega),List.flatMap_cons,List.flatMap_nil,List.append_nil];have e1:min (18*m) (H+pcN H 17)=18*m:=by omega
  rw[e1];unfold plc;rw[show K1+18*m=K1+18*m from rfl,KI];congr 1;unfold pcE;have:m+1<pcN H 17→17*(m+1)<H:=fun h=>JH (by omega) h;by_cases hl:m+1<pcN H 17
  ·have:=this hl;omega
  ·have:m+1=pcN H 17:=by omega
   omega
theorem ac2 {K1 H:Nat}:List.range K1++(List.range (pcN H 17)).flatMap (plc K1 H)=List.range (K1+(H+pcN H 17)):=by
 have hge:=aaa (L:=H) (m:=17) (by omega);rw[aac _ (Nat.le_refl _)];congr 1;omega
theorem acf {K1 H x k:Nat}(hx:x<pcN H 17)(hk:k≤pcE H 17 x-17*x+1):List.range K1++(List.range x).flatMap (plc K1 H)++(plc K1 H x).take k=List.range (K1+18*x+k):=by
 have h0:=JH (m:=17) (by omega) hx;rw[aac _ (by omega),show min (18*x) (H+pcN H 17)=18*x by omega];unfold plc;rw[←List.map_take,List.take_range,Nat.min_eq_left hk,KI]
theorem zr.keep {w w':World}{lo hi:Nat}{k:IntKind}{v:Value}{xs:List Int}(h:zr w lo hi k v xs)(hk: ∀b,lo≤b→b<hi→w'.heap[b]?=w.heap[b]?):zr w' lo hi k v xs:=by
 obtain⟨ao,cap,hv,hl,hc,h⟩:=h;refine⟨ao,cap,hv,hl,hc,?_⟩;rcases h with h|⟨b,off,ha,h1,h2,h3⟩
 ·exact Or.inl h
 ·exact Or.inr ⟨b,off,ha,h1,h2,fun i hi=>(World.cell?_of_block (a:=⟨b,off+i,none⟩) (hk b h1 h2)).trans (h3 i hi)⟩
theorem qF.keep {w w':World}{lo hi:Nat}{v:Value}{ps:List Wr}(h:qF w lo hi v ps)(hk: ∀b,lo≤b→b<hi→w'.heap[b]?=w.heap[b]?):qF w' lo hi v ps:=by
 obtain⟨ao,cap,hv,hl,hc,h⟩:=h;refine⟨ao,cap,hv,hl,hc,?_⟩;rcases h with h|⟨b,off,ha,h1,h2,h3⟩
 ·exact Or.inl h
 ·refine Or.inr ⟨b,off,ha,h1,h2,fun i hi=>?_⟩;obtain⟨dv,c1,c2,vw⟩:=h3 i hi;exact⟨dv,(World.cell?_of_block (a:=⟨b,off+i*2,none⟩) (hk b h1 h2)).trans c1,(World.cell?_of_block (a:=⟨b,off+i*2+1,none⟩) (hk b h1 h2)).trans c2,vw.keep hk⟩
def tyA (t:TypeId):Prop:=t=72∨t=33∨t=32∨t=3∨t=187
theorem ado:tyA 72:=Or.inl rfl
theorem ad1:tyA 33:=Or.inr (Or.inl rfl)
theorem adq:tyA 32:=Or.inr (Or.inr (Or.inl rfl))
theorem acF:tyA 3:=Or.inr (Or.inr (Or.inr (Or.inl rfl)))
theorem adp:tyA 187:=Or.inr (Or.inr (Or.inr (Or.inr rfl)))
def UT (V V':World):Prop:= ∀(k:Nat) (cs:Array Value) (t:TypeId) (fr:Nat×Nat),tyA t→V.heap[k]?=some (Obj.cells cs t fr)→V'.heap[k]?=V.heap[k]?
def US (b:Nat) (V V':World):Prop:= ∀(k:Nat) (o:Obj),b≤k→V.heap[k]?=some o→o.isCells=false→V'.heap[k]?=V.heap[k]?
def KpT (K:Nat→Prop) (b:Nat) (V V':World):Prop:=qd K V V'∧UT V V'∧US b V V'
theorem UT.trans {A B C:World}(h:UT A B)(k:UT B C):UT A C:=fun i cs t fr ht e=>(k i cs t fr ht ((h i cs t fr ht e).trans e)).trans (h i cs t fr ht e)
theorem US.trans {b:Nat}{A B C:World}(h:US b A B)(k:US b B C):US b A C:=fun i o hb e ho=>(k i o hb ((h i o hb e ho).trans e) ho).trans (h i o hb e ho)
theorem KpT.trans {K:Nat→Prop}{b:Nat}{A B C:World}(h:KpT K b A B)(k:KpT K b B C):KpT K b A C:=⟨h.1.trans k.1,h.2.1.trans k.2.1,h.2.2.trans k.2.2⟩
theorem KpT.chg {K:Nat→Prop}{b:Nat}{V V':World}{l r:Nat}(c:Chg l r V V')(hK: ∀k,K k→k<V.heap.size∧(k<l∨r≤k))(h: ∀(k:Nat),l≤k→k<r→ ∃(cs:Array Value) (t:TypeId) (fr:Nat×Nat),V.heap[k]?=some (Obj.cells cs t fr)∧ ¬tyA t):KpT K b V V':=by
 have key: ∀(k:Nat) (o:Obj),V.heap[k]?=some o→(∀cs t fr,o=Obj.cells cs t fr→tyA t)→V'.heap[k]?=V.heap[k]?:=fun k o e ho=>by
  refine c.block k (gLt e) ?_;rcases Nat.lt_or_ge k l with h1|h1
  ·exact Or.inl h1
  ·rcases Nat.lt_or_ge k r with h2|h2
   ·obtain⟨cs,t,fr,e',hn⟩:=h k h1 h2;rw[e] at e'
    cases e'
    exact absurd (ho cs t fr rfl) hn
   ·exact Or.inr h2
 exact⟨fun k hk=>c.block k (hK k hk).1 (hK k hk).2,fun k cs t fr ht e=>key k _ e (fun _ _ _ e'=>by cases e';exact ht),fun k o _ e ho=>key k o e (fun _ _ _ e'=>by rw[e'] at ho;cases ho)⟩
theorem KpT.chg0 {K:Nat→Prop}{b:Nat}{V V':World}{l:Nat}(c:Chg l l V V')(hK: ∀k,K k→k<V.heap.size):KpT K b V V':=KpT.chg c (fun k hk=>⟨hK k hk,by omega⟩) (fun k h1 h2=>by omega)
theorem KpT.put {K:Nat→Prop}{W:World}{B b:Nat}(o:Obj){r:Loop}(hb:W.heap[B]?=some (.loop r))(hK: ∀k,K k→k≠B)(hB:B<b):KpT K b W (W.putObj B o):=
 ⟨fun k hk=>World.putObj_heap_other (hK k hk),fun k cs t fr _ e=>World.putObj_heap_other (fun h=>by rw[h,hb] at e;cases e),fun k o hk _ _=>World.putObj_heap_other (by omega)⟩
structure RS where
 seen:List (List Int)
 seq:Int
 homes:List Wr
 revs:List Int
 aw:List (Int×Bool)
def RS.zero:RS:=⟨[],0,[],[],[]⟩
def zy (s:RS) (x:FB):RS×Bool:=
 match s.aw with
 |t::r=>if Zt x.bs t.2=true then(⟨s.seen++ [x.bs],s.seq,s.homes++ [(t.1,jD x.bs t.2)],s.revs,r⟩,true) else(⟨s.seen++ [x.bs],s.seq,s.homes,s.revs,r⟩,false)
 | []=>match x with
  | .inl (_,rs)=>(⟨s.seen++ [x.bs],s.seq,s.homes,s.revs++rs,[]⟩,true)
  | .inr (.inl (_,ts))=>(⟨s.seen++ [x.bs],s.seq,s.homes,s.revs,ts⟩,true)
  | .inr (.inr (.inl (q,_,_)))=>(⟨s.seen++ [x.bs],q,s.homes,s.revs,[]⟩,false)
  | .inr (.inr (.inr _))=>(⟨s.seen++ [x.bs],s.seq,s.homes,s.revs,[]⟩,false)
def zU (t:TypeId) (base:Nat) (w w':World):Prop:= ∀(j:Nat) (cur:Array Value),base≤j→w.heap[j]?=some (.cells cur t (0,0))→w'.heap[j]?=some (.cells cur t (0,0))
theorem zU.chg {t:TypeId}{base l r:Nat}{w w':World}(c:Chg l r w w')(h:r≤l∨r≤base∨w.heap.size≤l):zU t base w w':=fun j _ hj hh=>(c.block j (gLt hh) (by have:=(gLt hh);omega)).trans hh
theorem zU.set {t T:TypeId}{base R i:Nat}{w:World}{cs:Array Value}(v:Value)(hR:w.heap[R]?=some (.cells cs T (0,0)))(ht:T≠t):zU t base w (w.setCell ⟨R,i,none⟩ v):=fun j cur _ hh=>(Below.heap_setCell _ _ _ _ (fun e=>by
 have e':j=R:=e
 rw[e',hR] at hh
 simp only[Option.some.injEq,Obj.cells.injEq] at hh
 exact ht hh.2.1)).trans hh
theorem zU.grown {t T:TypeId}{base b size n:Nat}{w w':World}{v:Value}{xs:List Value}(g:w.grownBy w' v.ownBlock)(h:w.ownsRow b T size v n xs)(ht:T≠t):zU t base w w':=fun j cur _ hh=>
 (g.block j (gLt hh) (fun e=>by
  obtain⟨cur',hc⟩:=zw h e.symm
  rw[hc] at hh
  simp only[Option.some.injEq,Obj.cells.injEq] at hh
  exact ht hh.2.1)).trans hh
theorem zH {w w':World}{base size n:Nat}{e:TypeId}{v:Value}{xs:List Value}(h:w.ownsRow base e size v n xs)(k:zU e base w w'):w'.ownsRow base e size v n xs:=by
 obtain⟨h1,h2⟩:=h;refine⟨h1,?_⟩;rcases h2 with h2|⟨g,cap,cur,hv,hg,hh,r⟩
 ·exact Or.inl h2
 ·exact Or.inr ⟨g,cap,cur,hv,hg,k g cur hg hh,r⟩
theorem qj.keep {w w':World}{base:Nat}{v:Value}{es:List Hv}(h:qj w base v es)(k1:zU 61 base w w')(k2:zU 5 base w w'):qj w' base v es:=
 ⟨zH h.row k1,fun e he=>zH (h.data e he) k2,h.apart⟩
def AwV (w:World) (base:Nat) (av:Value) (ts:List (Int×Bool)):Prop:= ∃ao cap,av= .slice ao ts.length cap∧ts.length≤cap∧cap≤17∧(0<ts.length→ ∃g off cur,ao=some ⟨g,off,none⟩∧base≤g∧w.heap[g]?=some (.cells cur 176 (0,0))∧
 ∀i,i<ts.length→cur[off+i*2]?=some (za (ts.getD i (0,false)).1)∧cur[off+i*2+1]?=some (.bool (ts.getD i (0,false)).2))
theorem AwV.keep {w w':World}{base:Nat}{av:Value}{ts:List (Int×Bool)}(h:AwV w base av ts)(k:zU 176 base w w'):AwV w' base av ts:=by
 obtain⟨ao,cap,e,h1,h2,h3⟩:=h;refine⟨ao,cap,e,h1,h2,fun h0=>?_⟩;obtain⟨g,off,cur,e1,hg,hh,hc⟩:=h3 h0;exact⟨g,off,cur,e1,hg,k g cur hg hh,hc⟩
structure Pts (w:World)(base:Nat)(s:RS)(sv hv rv av:Value)(es:List Hv):Prop where
 seen:w.ownsRow base 72 64 sv s.seen.length (s.seen.flatten.map (Value.int .u8))
 homes:qj w base hv es
 hs:es.map (fun e=>(e.1,e.2.2))=s.homes
 revs:zP w base 2 rv s.revs
 aw:AwV w base av s.aw
theorem Pts.chg {w w':World}{base l r:Nat}{s:RS}{sv hv rv av:Value}{es:List Hv}(h:Pts w base s sv hv rv av es)(c:Chg l r w w')(d:r≤l∨r≤base∨w.heap.size≤l):Pts w' base s sv hv rv av es:=
 ⟨zH h.seen (zU.chg c d),h.homes.keep (zU.chg c d) (zU.chg c d),h.hs,zH h.revs (zU.chg c d),h.aw.keep (zU.chg c d)⟩
theorem Pts.set {w:World}{base R i:Nat}{s:RS}{sv hv rv av:Value}{es:List Hv}{cs:Array Value}(h:Pts w base s sv hv rv av es)(v:Value)(hR:w.heap[R]?=some (.cells cs 207 (0,0))):Pts (w.setCell ⟨R,i,none⟩ v) base s sv hv rv av es:=
 ⟨zH h.seen (zU.set v hR (by decide)),h.homes.keep (zU.set v hR (by decide)) (zU.set v hR (by decide)),h.hs,zH h.revs (zU.set v hR (by decide)),h.aw.keep (zU.set v hR (by decide))⟩
structure qG (base:Nat)(w w':World):Prop where
 os:w'.os=w.os
 tape:w'.tape=w.tape
 output:w'.output=w.output
 size:w.heap.size≤w'.heap.size
 low: ∀k,k<base→w'.heap[k]?=w.heap[k]?
 obj: ∀(k:Nat) (o:Obj),w.heap[k]?=some o→o.isCells=false→w'.heap[k]?=some o
theorem qG.trans {base:Nat}{a b c:World}(h:qG base a b)(k:qG base b c):qG base a c:=
 ⟨k.os.trans h.os,k.tape.trans h.tape,k.output.trans h.output,Nat.le_trans h.size k.size,fun i hi=>(k.low i hi).trans (h.low i hi),fun i o hi ho=>k.obj i o (h.obj i o hi ho) ho⟩
theorem qG.chg {base:Nat}{w w':World}(c:Chg 0 0 w w')(hb:base≤w.heap.size):qG base w w':=
 ⟨c.os,c.tape,c.output,c.size,fun k hk=>c.block k (by omega) (by omega),fun k o hk _=>(c.block k (gLt hk) (by omega)).trans hk⟩
theorem qG.set {base R i:Nat}{w:World}{cs:Array Value}{T:TypeId}(v:Value)(hR:w.heap[R]?=some (.cells cs T (0,0)))(hb:base≤R):qG base w (w.setCell ⟨R,i,none⟩ v):=by
 have c:Chg R (R+1) w (w.setCell ⟨R,i,none⟩ v):=Chg.setCell (p:=⟨R,i,none⟩) (Chg.refl _ _ _) (Or.inl ⟨Nat.le_refl _,Nat.lt_succ_self _⟩) _;have hl:=(gLt hR);refine⟨c.os,c.tape,c.output,c.size,fun k hk=>c.block k (by omega) (by omega),fun k o hk ho=>?_⟩;by_cases e:k=R
 ·subst e;rw[hR] at hk
  cases hk
  cases ho
 ·exact(c.block k (gLt hk) (by omega)).trans hk
theorem qG.grown {base size n:Nat}{w w':World}{T:TypeId}{v:Value}{xs:List Value}(g:w.grownBy w' v.ownBlock)(h:w.ownsRow base T size v n xs)(hb:base≤w.heap.size):qG base w w':=by
 refine⟨g.os,g.tape,g.output,g.size,fun k hk=>g.block k (by omega) (fun e=>by have:=(World.ownsRow.lt h k e.symm).1;omega),fun k o hk ho=>(g.block k (gLt hk) (fun e=>?_)).trans hk⟩;obtain⟨cur,hc⟩:=zw h e.symm;rw[hc] at hk
 cases hk
 cases ho
abbrev rdO (sv:Value) (q:Int) (hv rv av:Value):Obj:= .cells #[sv,za q,hv,rv,av] 207 (0,0)
theorem qy {w:World}{R:Nat}{sv hv rv av:Value}{q:Int}(h:w.heap[R]?=some (rdO sv q hv rv av)):
  w.cell? (zd R)=some sv∧w.cell? ⟨R,1,none⟩=some (za q)∧w.cell? ⟨R,2,none⟩=some hv∧w.cell? ⟨R,3,none⟩=some rv∧w.cell? ⟨R,4,none⟩=some av∧ ∀i,w.frozen? ⟨R,i,none⟩=false:=by
 refine⟨?_,?_,?_,?_,?_,fun i=>by simp[World.frozen?,h]⟩<;>simp[World.cell?,h]
theorem js {w:World}{R i:Nat}{cs:Array Value}{t:TypeId}(h:w.heap[R]?=some (.cells cs t (0,0)))(v:Value):(w.setCell ⟨R,i,none⟩ v).heap[R]?=some (.cells (cs.setIfInBounds i v) t (0,0)):=by
 obtain⟨hlt,hk⟩:=Array.getElem?_eq_some_iff.1 h;show(w.heap.modify R _)[R]?=_;rw[Array.getElem?_eq_getElem (by rw[Array.size_modify];exact hlt),Array.getElem_modify_self,hk];rfl
theorem ac5 {w:World}{R:Nat}{sv hv rv av:Value}{q:Int}(h:w.heap[R]?=some (rdO sv q hv rv av))(x:Value):(w.setCell (zd R) x).heap[R]?=some (rdO x q hv rv av):=js h x
theorem ac6 {w:World}{R:Nat}{sv hv rv av:Value}{q:Int}(h:w.heap[R]?=some (rdO sv q hv rv av))(x:Int):(w.setCell ⟨R,1,none⟩ (za x)).heap[R]?=some (rdO sv x hv rv av):=js h _
theorem ac7 {w:World}{R:Nat}{sv hv rv av:Value}{q:Int}(h:w.heap[R]?=some (rdO sv q hv rv av))(x:Value):(w.setCell ⟨R,2,none⟩ x).heap[R]?=some (rdO sv q x rv av):=js h x
theorem ac8 {w:World}{R:Nat}{sv hv rv av:Value}{q:Int}(h:w.heap[R]?=some (rdO sv q hv rv av))(x:Value):(w.setCell ⟨R,3,none⟩ x).heap[R]?=some (rdO sv q hv x av):=js h x
theorem aae {w:World}{R:Nat}{sv hv rv av:Value}{q:Int}(h:w.heap[R]?=some (rdO sv q hv rv av))(x:Value):(w.setCell ⟨R,4,none⟩ x).heap[R]?=some (rdO sv q hv rv x):=js h x
theorem QX {w:World}{B:Nat}{xs:List Int}(h:w.heap[B]?=some (.cells (xs.map (Value.int .u8)).toArray 72 (0,0)))(hx:xs.length=64):zr w B (B+1) .u8 (.slice (some (zd B)) 64 64) xs:=by
 refine⟨_,_,by rw[hx],by omega,⟨by omega,by simp⟩,Or.inr ⟨B,0,rfl,Nat.le_refl _,Nat.lt_succ_self _,fun i hi=>?_⟩⟩;rw[Nat.zero_add];simp[World.cell?,h,List.getD_eq_getElem?_getD,hi]
def JP (w:World) (base R:Nat) (s:RS):Prop:= ∃sv hv rv av es,w.heap[R]?=some (rdO sv s.seq hv rv av)∧Pts w base s sv hv rv av es
theorem zU.grownE {t:TypeId}{b size n:Nat}{w w':World}{v:Value}{xs:List Value}(g:w.grownBy w' v.ownBlock)(h:w.ownsRow b t size v n xs): ∀(j:Nat) (cur:Array Value) (T:TypeId),T≠t→w.heap[j]?=some (.cells cur T (0,0))→w'.heap[j]?=some (.cells cur T (0,0)):=fun j cur _ ht hh=>
 (zU.grown (base:=0) g h (Ne.symm ht)) j cur (Nat.zero_le _) hh
theorem XZ {o:Oper}{a:Act}{W:World}{K:Act→World→Prop}{Q:Exit→Act→World→Prop}{q:Int}{dv:Value}(xs:List Int)(s x:Operand)
  (ho:o.op= .call {callee:= .builtin .append,args:= #[s,x],argTypes:= #[32,32]}) (base:Nat) (v:Value) (es:List Hv) (hs:a.eval s=v) (hown:Qd W base v es) (hbase:base≤W.heap.size)
  (hx:a.eval x= .slice (some (zd W.heap.size)) 1 1) (hk:es.length≤90000) (hd: ∃a l c,dv= .slice a l c)
  (h: ∀g cp w',Qd w' base (.slice (some (zd g)) (es.length+1) cp) (es++ [(q,dv,xs)])→(W.alloc (.cells #[za q,dv] 61)).grownBy w' v.ownBlock→K (a.put o.dst (.slice (some (zd g)) (es.length+1) cp)) w'):
  o.wp Tryz.prog a (W.alloc (.cells #[za q,dv] 61)) K Q:=by
 have hO:=hown.chg (w':=W.alloc (.cells #[za q,dv] 61)) (Chg.alloc (Chg.refl 0 0 W) _) (by omega);obtain⟨i,hi,hz0,hz1,hz2⟩:=info_parts Tryz.infoH;refine wp_append_own _ s x 32 ho base 61 i _ 2 32 Tryz.underlying32 hi hz0 hz1 hz2 rfl (by omega) v es.length _ hs hO (zd W.heap.size) 1 1 (jV [(q,dv,xs)]) hx ?_ ?_ ?_ (by unfold maxLen;omega) (by omega) (by simp;omega) ?_
 ·rfl
 ·intro j u hj;rw[Go.WideShapes.add_plain,Nat.zero_add];simp only[World.cell?,zh W _];simpa [jV] using hj
 ·intro u hu;obtain⟨a,l,c,rfl⟩:=hd;simp[jV] at hu;rcases hu with rfl|rfl<;>rfl
 ·intro v' w' h1 h2 _;obtain⟨g',cap',e'⟩: ∃g cp,v'= .slice (some (zd g)) (es.length+1) cp:=by
   rcases h1.2 with⟨_,h0⟩|⟨g',cap',cur,e',_⟩
   ·omega
   ·exact⟨g',cap',e'⟩
  subst e';exact h g' cap' w' (by unfold Qd;rw[List.length_append,EY];exact h1) h2
theorem Pts.homes_app {w w1 w2:World}{base g cp:Nat}{s:RS}{sv hv dv rv av:Value}{es:List Hv}{q:Int}{xs:List Int}(h:Pts w base s sv hv rv av es)(hb:base≤w.heap.size)(hd:zi w1 w.heap.size 5 dv xs)(c:Chg 0 0 w w1)
  (ho:Qd w2 base (.slice (some (zd g)) (es.length+1) cp) (es++ [(q,dv,xs)])) (hg:(w1.alloc (.cells #[za q,dv] 61)).grownBy w2 hv.ownBlock):
  Pts w2 base {s with homes:=s.homes++ [(q,xs)]} sv (.slice (some (zd g)) (es.length+1) cp) rv av (es++ [(q,dv,xs)])∧qG base w w2∧ ∀(j:Nat) (cur:Array Value) (T:TypeId),T≠61→w.heap[j]?=some (.cells cur T (0,0))→w2.heap[j]?=some (.cells cur T (0,0)):=by
 have cA:Chg 0 0 w1 (w1.alloc (.cells #[za q,dv] 61)):=Chg.alloc (Chg.refl 0 0 w1) _;have c2:=c.trans cA;have hO:=(h.homes.row.chg c (by omega)).chg cA (by omega);have hP:=h.chg c2 (by omega);have hk:=zU.grownE hg hO;have kR: ∀ {t:TypeId},t≠61→zU t base (w1.alloc (.cells #[za q,dv] 61)) w2:=fun ht j cur _ hh=>hk j cur _ ht hh;have s2:=c2.size;refine⟨⟨zH hP.seen (kR (by decide)),qj.more h.homes hb hd c ho (r:=w2.heap.size) ?_ hk,?_,zH hP.revs (kR (by decide)),hP.aw.keep (kR (by decide))⟩,(qG.chg c2 hb).trans (qG.grown hg hO (by omega)),fun j cur T hT hh=>hk j cur T hT ((c2.block j (gLt hh) (by omega)).trans hh)⟩
 ·exact Chg.ofGrown hg (fun k hk hlt=>⟨(World.ownsRow.lt hO k hk).1,by have:=hg.size;omega⟩)
 ·rw[List.map_append,h.hs];rfl
theorem Pts.revs_app {w w':World}{base:Nat}{s:RS}{sv hv rv rv' av:Value}{es:List Hv}{rs:List Int}(h:Pts w base s sv hv rv av es)(g:w.grownBy w' rv.ownBlock)(ho:zP w' base 2 rv' (s.revs++rs)):Pts w' base {s with revs:=s.revs++rs} sv hv rv' av es:=
 ⟨zH h.seen (zU.grown g h.revs (by decide)),h.homes.keep (zU.grown g h.revs (by decide)) (zU.grown g h.revs (by decide)),h.hs,ho,h.aw.keep (zU.grown g h.revs (by decide))⟩
theorem Pts.seen_app {w w':World}{base:Nat}{s:RS}{sv sv' hv rv av:Value}{es:List Hv}{b:List Int}(h:Pts w base s sv hv rv av es)(g:w.grownBy w' sv.ownBlock)(ho:w'.ownsRow base 72 64 sv' (s.seen.length+1) (s.seen.flatten.map (Value.int .u8)++b.map (Value.int .u8))):Pts w' base {s with seen:=s.seen++ [b]} sv' hv rv av es:=by
 refine⟨?_,h.homes.keep (zU.grown g h.seen (by decide)) (zU.grown g h.seen (by decide)),h.hs,zH h.revs (zU.grown g h.seen (by decide)),h.aw.keep (zU.grown g h.seen (by decide))⟩;rw[List.length_append,List.flatten_append,List.map_append];simpa using ho
theorem Es {w w':World}{base R n size:Nat}{T:TypeId}{v sv hv rv av:Value}{q:Int}{xs:List Value}(h:w.heap[R]?=some (rdO sv q hv rv av))(g:w.grownBy w' v.ownBlock)(ho:w.ownsRow base T size v n xs)(ht:T≠207):w'.heap[R]?=some (rdO sv q hv rv av):=
 (zU.grown (base:=0) g ho ht) R _ (Nat.zero_le _) h
theorem Xp (w:World)(h0 h1 h2 h3 kd it sq:Int):
  Calls Tryz.prog 108 #[ab1 h0 h1 h2 h3 kd it sq] w fun e w'=>e= .returned (za sq)∧Chg 0 0 w w':=by
 have HC:Hid (Chg 0 0 w (w.alloc (.cells #[zb h0,zb h1,zb h2,zb h3,za kd,za it,za sq] 138))):=Chg.alloc (Chg.refl 0 0 w) _;go_enter Tryz.func108,Tryz.ntmps108;go_wp2;go_ret;exact⟨rfl,HC.out⟩
theorem VD (w:World){base R:Nat}{s:RS}{sv hv rv av:Value}{es:List Hv}{tL tM tK:TypeId}{vL vM vK:Value}{q c m:Int}(hR:w.heap[R]?=some (rdO sv s.seq hv rv av))(hb:base≤R)(hP:Pts w base s sv hv rv av es)(hG:jl w tL tM tK vL vM vK)(h:(FB.com q c m).ok):
  Calls Tryz.prog 135 #[.pointer (some (zd R)),.agg ((FB.com q c m).bs.map (Value.int .u8)).toArray] w fun e w'=>(∃v,e= .returned v)∧w'.heap[R]?=some (rdO sv q hv rv av)∧Pts w' base {s with seq:=q} sv hv rv av es∧qG base w w':=by
 have hl:=FB.len h;obtain⟨xs,hxs⟩: ∃xs,xs=(FB.com q c m).bs:=⟨_,rfl⟩;have cA:Chg 0 0 w (w.alloc (.cells (xs.map (Value.int .u8)).toArray 72)):=Chg.alloc (Chg.refl 0 0 w) _;have hA:=zh w (.cells (xs.map (Value.int .u8)).toArray 72);rw[←hxs] at hl⊢;have hV:=QX hA hl;have hC:=ack _ h (by rw[←hxs];exact hV) (hG.chg cA (by omega));have hRl:=(gLt hR);have hR1:=(cA.block R hRl (by omega)).trans hR;have hP1:=hP.chg cA (by omega)
 have sA:=cA.size;clear hA hV hP hR h hl hxs hG;generalize (xs.map (Value.int .u8)).toArray=cs at*;go_enter Tryz.func135,Tryz.ntmps135;go_wp2_with fail;generalize w.alloc (.cells cs 72)=wA at*;refine hC.mono ?_;rintro e w1 ⟨rfl,c1⟩;have s1:=c1.size;have z:=zh w1 (.cells #[zb 0,zb 0,zb 0,zb 0,za 0,za 0,za 0,za 0] 140);have cZ:Chg 0 0 w1 (w1.alloc (.cells #[zb 0,zb 0,zb 0,zb 0,za 0,za 0,za 0,za 0] 140)):=Chg.alloc (Chg.refl 0 0 w1) _
 have sZ:=cZ.size;go_upto_region 2 with(refine wpList_store_row rfl 140 (.tmp 4) (.tmp 9) rfl rfl w1.heap.size rfl [zb 106,zb 108,zb 111,zb 103,za 4,za c,za q,za m] [zb 0,zb 0,zb 0,zb 0,za 0,za 0,za 0,za 0] 140 rfl z rfl (by kernel_rfl) (by simp[Value.oneCell']) ?_;intro w2 hb2 hc2);have c2:Chg 0 0 w w2:=((cA.trans c1).trans cZ).step hc2 (by omega);have s2:=hc2.size;have c12:Chg 0 0 wA w2:=(c1.trans cZ).step hc2 (by omega)
 have hR2:=(c12.block R (by omega) (by omega)).trans hR1;have hP2:=hP1.chg c12 (by omega);have hlt2:=(gLt hb2);clear hC c1 z cZ hc2 c12 hR1 hP1 cA;go_wp2_with fail;refine(Zp w2).mono ?_;rintro e w3 ⟨rfl,c3⟩;have hb3:=(c3.block _ hlt2 (by omega)).trans hb2;have hR3:=(c3.block R (by omega) (by omega)).trans hR2;have hP3:=hP2.chg c3 (by omega);have c03:=c2.trans c3;have s3:=c3.size;obtain⟨y0,y1,y2,y3,y4,y5,y6,y7⟩:=eight hb3
 have HR3:Hid (w3.heap[R]?=some (rdO sv s.seq hv rv av)):=hR3;have HP3:Hid (Pts w3 base s sv hv rv av es):=hP3;have HC3:Hid (Chg 0 0 w w3):=c03;clear hb3 hb2 hR2 hP2 c2 c3 hR3 hP3 c03;go_wp2_with fail;refine(Xp w3 106 108 111 103 4 c q).mono ?_;rintro e w4 ⟨rfl,c4⟩;have hR4:=(c4.block R (by omega) (by omega)).trans HR3.out;have hP4:=HP3.out.chg c4 (by omega);have c04:=HC3.out.trans c4;obtain⟨_,x1,_,_,_,fr⟩:=qy hR4
 have f1:=fr 1;have HF:Hid ((w4.setCell ⟨R,1,none⟩ (za q)).heap[R]?=some (rdO sv q hv rv av)∧Pts (w4.setCell ⟨R,1,none⟩ (za q)) base {s with seq:=q} sv hv rv av es∧qG base w (w4.setCell ⟨R,1,none⟩ (za q))):=by
  refine⟨ac6 hR4 q,?_,(qG.chg c04 (by omega)).trans (qG.set _ hR4 hb)⟩;have:=hP4.set (i:=1) (za q) hR4;exact⟨this.seen,this.homes,this.hs,this.revs,this.aw⟩
 clear fr hR4 hP4 c04 c4 y0 y1 y2 y3 y4 y5 y6 y7;go_wp2;go_end0;exact⟨⟨_,rfl⟩,HF.out⟩
theorem ZO {o:Oper}{a:Act}{w:World}{K:Act→World→Prop}{Q:Exit→Act→World→Prop}(s x:Operand)
  (ho:o.op= .call {callee:= .builtin .append,args:= #[s,x],argTypes:= #[33,33]})
  (base:Nat) (sv:Value) (xs:List Int) (hs:a.eval s=sv) (hO:zP w base 2 sv xs) (hbase:base≤w.heap.size) (lo hi:Nat) (xv:Value) (ys:List Int) (hx:a.eval x=xv) (hv:zr w lo hi .i64 xv ys) (hy:0<ys.length) (hl:xs.length+ys.length≤1048576)
  (h: ∀v' w',zP w' base 2 v' (xs++ys)→w.grownBy w' sv.ownBlock→K (a.put o.dst v') w'):o.wp Tryz.prog a w K Q:=by
 obtain⟨i,hi,hz0,hz1,hz2⟩:=info_parts Tryz.infoI;obtain⟨ao,cap,rfl,_,_,hcell⟩:=hv;obtain⟨b,off,rfl,hc⟩: ∃b off,ao=some ⟨b,off,none⟩∧ ∀i,i<ys.length→w.cell? ⟨b,off+i,none⟩=some (za (ys.getD i 0)):=by
  rcases hcell with e|⟨b,off,e,_,_,h3⟩
  ·rw[e] at hy;simp at hy
  ·exact⟨b,off,e,h3⟩
 have HNW: ∀j u,(ys.map (Value.int .i64))[j]?=some u→w.cell? ((⟨b,off,none⟩:Addr).add j)=some u:=by
  intro j u hj;have hjl:j<ys.length:=by have:=(List.getElem?_eq_some_iff.1 hj).1;simpa using this
  rw[Go.WideShapes.add_plain,hc j hjl,←hj];simp[List.getD_eq_getElem?_getD,hjl]
 have hrow:w.ownsRow base 2 1 sv xs.length (xs.map (Value.int .i64)):=hO;refine wp_append_own _ s x 33 ho base 2 i (za 0) 1 8 Tryz.underlying33 hi hz0 hz1 hz2 rfl (by decide) sv xs.length (xs.map (Value.int .i64)) hs hrow ⟨b,off,none⟩ ys.length cap (ys.map (Value.int .i64)) hx (by simp) HNW ?_ (by unfold maxLen;omega) (by omega) hbase ?_
 ·intro u hu;obtain⟨y,_,rfl⟩:=List.mem_map.1 hu;rfl
 ·intro v' w2 hown hgrow _;refine h v' w2 ?_ hgrow;unfold zP;rw[List.length_append,List.map_append];exact hown
theorem zP.shape {w:World}{base:Nat}{e:TypeId}{v:Value}{xs:List Int}(h:zP w base e v xs): ∃ao cap,v= .slice ao xs.length cap:=by
 obtain⟨_,h2⟩:=h;rcases h2 with⟨rfl,h0⟩|⟨g,cap,cur,rfl,_⟩
 ·exact⟨none,0,by rw[h0]⟩
 ·exact⟨_,cap,rfl⟩
theorem VE (w:World){base R:Nat}{s:RS}{sv hv rv av:Value}{es:List Hv}{tL tM tK:TypeId}{vL vM vK:Value}{q:Int}{rs:List Int}(hR:w.heap[R]?=some (rdO sv s.seq hv rv av))(hb:base≤R)(hP:Pts w base s sv hv rv av es)(hG:jl w tL tM tK vL vM vK)(h:(FB.rev q rs).ok)(hlr:s.revs.length≤20000):
  Calls Tryz.prog 133 #[.pointer (some (zd R)),.agg ((FB.rev q rs).bs.map (Value.int .u8)).toArray] w fun e w'=>e= .returned (.bool true)∧qG base w w'∧ ∃rv',w'.heap[R]?=some (rdO sv s.seq hv rv' av)∧Pts w' base {s with revs:=s.revs++rs} sv hv rv' av es:=by
 have hl:=FB.len h;obtain⟨xs,hxs⟩: ∃xs,xs=(FB.rev q rs).bs:=⟨_,rfl⟩;have cA:Chg 0 0 w (w.alloc (.cells (xs.map (Value.int .u8)).toArray 72)):=Chg.alloc (Chg.refl 0 0 w) _;have hA:=zh w (.cells (xs.map (Value.int .u8)).toArray 72);rw[←hxs] at hl⊢;have hV:=QX hA hl;have hC:=acn _ h (by rw[←hxs];exact hV) (hG.chg cA (by omega));have hn:1≤rs.length∧rs.length≤26:=h.2.2;have hRl:=(gLt hR);have hR1:=(cA.block R hRl (by omega)).trans hR
 have hP1:=hP.chg cA (by omega);have sA:=cA.size;clear hA hV hP hR h hl hxs hG;generalize (xs.map (Value.int .u8)).toArray=cs at*;go_enter Tryz.func133,Tryz.ntmps133;go_wp2_with fail;generalize w.alloc (.cells cs 72)=wA at*;refine hC.mono ?_;rintro e w1 ⟨g,rfl,hO,c1⟩;have s1:=c1.size;have z:=zh w1 (.cells #[zb 0,zb 0,zb 0,zb 0,za 0,za 0,za 0,zc] 191);have cZ:Chg 0 0 w1 (w1.alloc (.cells #[zb 0,zb 0,zb 0,zb 0,za 0,za 0,za 0,zc] 191)):=Chg.alloc (Chg.refl 0 0 w1) _
 have sZ:=cZ.size;go_upto_region 2 with(refine wpList_store_row rfl 191 (.tmp 5) (.tmp 10) rfl rfl w1.heap.size rfl [zb 106,zb 108,zb 111,zb 103,za 3,za (rs.length:Int),za q,.slice (some (zd g)) rs.length rs.length] [zb 0,zb 0,zb 0,zb 0,za 0,za 0,za 0,zc] 191 rfl z rfl (by kernel_rfl) (by simp[Value.oneCell']) ?_;intro w2 hb2 hc2);have c2:Chg 0 0 w w2:=((cA.trans c1).trans cZ).step hc2 (by omega);have s2:=hc2.size
 have c12:Chg 0 0 wA w2:=(c1.trans cZ).step hc2 (by omega);have c02:Chg 0 0 w1 w2:=cZ.step hc2 (by omega);have hR2:=(c12.block R (by omega) (by omega)).trans hR1;have hP2:=hP1.chg c12 (by omega);have hlt2:=(gLt hb2);have hO2:=hO.chg c02 (fun x _=>by omega);clear hC c1 z cZ hc2 c12 hR1 hP1 cA c02 hO;go_wp2_with fail;refine(Zp w2).mono ?_;rintro e w3 ⟨rfl,c3⟩;have hb3:=(c3.block _ hlt2 (by omega)).trans hb2
 have hR3:=(c3.block R (by omega) (by omega)).trans hR2;have hP3:=hP2.chg c3 (by omega);have c03:=c2.trans c3;have s3:=c3.size;have hO3:=hO2.chg c3 (fun x _=>by omega);obtain⟨_,_,_,_,_,_,_,y7⟩:=eight hb3;obtain⟨_,_,_,x3,_,fr⟩:=qy hR3;obtain⟨ra,rc,rfl⟩:=hP3.revs.shape;have hv3:zr w3 0 w3.heap.size .i64 (.slice (some (zd g)) rs.length rs.length) rs:=by
  refine⟨_,_,rfl,by omega,⟨Nat.le_refl _,by simp⟩,Or.inr ⟨g,0,rfl,Nat.zero_le _,(hO3.lt g rfl).2,fun i hi=>?_⟩⟩;have:=World.ownsRow.cellAt hO3 i (by simpa using hi);rw[Nat.zero_add,this];simp[hi]
 have HP3:Hid (Pts w3 base s sv hv (.slice ra s.revs.length rc) av es):=hP3;have HR3:Hid (w3.heap[R]?=some (rdO sv s.seq hv (.slice ra s.revs.length rc) av)):=hR3;have HC3:Hid (Chg 0 0 w w3):=c03;have HV3:Hid (zr w3 0 w3.heap.size .i64 (.slice (some (zd g)) rs.length rs.length) rs):=hv3;have HS:Hid ((fun w':World=>w'.cell? ⟨R,3,none⟩=some (.slice ra s.revs.length rc)∧w'.heap[w1.heap.size]?=some (.cells (List.toArray [zb 106,zb 108,zb 111,zb 103,za 3,za (rs.length:Int),za q,.slice (some (zd g)) rs.length rs.length]) 191 (0,0))) w3.drew):=⟨x3,hb3⟩
 clear hO2 hP2 hR2 hb2 c3 c2 hO3 hP3 hR3 c03 hv3 hb3;go_wp2;refine zW 12 (fun w':World=>w'.cell? ⟨R,3,none⟩=some (.slice ra s.revs.length rc)∧w'.heap[w1.heap.size]?=some (.cells (List.toArray [zb 106,zb 108,zb 111,zb 103,za 3,za (rs.length:Int),za q,.slice (some (zd g)) rs.length rs.length]) 191 (0,0))) (by kernel_rfl) ?_;have HPd:Hid (Pts w3.drew base s sv hv (.slice ra s.revs.length rc) av es):=HP3.out.chg (Chg.drew (Chg.refl 0 0 w3)) (by omega)
 have HRd:Hid (w3.drew.heap[R]?=some (rdO sv s.seq hv (.slice ra s.revs.length rc) av)):=HR3.out;have HCd:Hid (Chg 0 0 w w3.drew):=HC3.out.drew;have HVd:Hid (zr w3.drew 0 w3.heap.size .i64 (.slice (some (zd g)) rs.length rs.length) rs):=HV3.out;have hsz:w3.heap.size≤w3.drew.heap.size:=Nat.le_refl _;generalize w3.drew=wd at*;refine wTk 0 (.pointer (some (zd R))) rfl (fun w' hw'=>by go_simp) HS.out ?_
 go_simp;refine wTk 1 (.pointer (some (zd R))) rfl (fun w' hw'=>by go_simp) HS.out ?_;go_simp;refine wTk 2 (.pointer (some (zd R))) rfl (fun w' hw'=>by go_simp) HS.out ?_;go_simp;refine wTk 3 (.pointer (some ⟨R,1,none⟩)) rfl (fun w' hw'=>by go_simp) HS.out ?_;go_simp;refine wTk 4 (.pointer (some ⟨R,3,none⟩)) rfl (fun w' hw'=>by go_simp) HS.out ?_;go_simp;refine wTk 5 (.slice ra s.revs.length rc) rfl (fun w' hw'=>by have h4:=hw'.1;go_simp) HS.out ?_
 go_simp;refine wTk 6 (.pointer (some ⟨w1.heap.size,7,none⟩)) rfl (fun w' hw'=>by go_simp) HS.out ?_;go_simp;refine wTk 7 (.slice (some (zd g)) rs.length rs.length) rfl (fun w' hw'=>by obtain⟨_,_,_,_,_,_,_,h4⟩:=eight hw'.2;go_simp) HS.out ?_;go_simp;refine zq 8 rfl rfl (by kernel_rfl) ?_;refine ZO (.tmp 19) (.tmp 21) rfl base (.slice ra s.revs.length rc) s.revs rfl HPd.out.revs (by omega) 0 w3.heap.size (.slice (some (zd g)) rs.length rs.length) rs rfl HVd.out (by omega) (by omega) ?_
 intro v' w4 o4 g4;obtain⟨va,vc,rfl⟩:=o4.shape;generalize (s.revs++rs).length=vn at*;have hR4:=Es HRd.out g4 HPd.out.revs (by decide);have hP4:=HPd.out.revs_app g4 o4;have hC4:=(qG.chg HCd.out (by omega)).trans (qG.grown g4 HPd.out.revs (by omega));obtain⟨_,_,_,e3,_,fr⟩:=qy hR4;have f3:=fr 3;have hS4:=(zU.grown (base:=0) g4 HPd.out.revs (by decide)) w1.heap.size _ (Nat.zero_le _) HS.out.2;refine⟨fun _=>⟨e3,hS4⟩,?_⟩
 have HF:Hid (qG base w (w4.setCell ⟨R,3,none⟩ (.slice va vn vc))∧(w4.setCell ⟨R,3,none⟩ (.slice va vn vc)).heap[R]?=some (rdO sv s.seq hv (.slice va vn vc) av)∧Pts (w4.setCell ⟨R,3,none⟩ (.slice va vn vc)) base {s with revs:=s.revs++rs} sv hv (.slice va vn vc) av es):=
  ⟨hC4.trans (qG.set _ hR4 hb),ac8 hR4 _,hP4.set _ hR4⟩
 clear hR4 hP4 hC4 fr o4 g4;go_simp;refine zq 9 rfl rfl (by kernel_rfl) ?_;go_simp;refine zq 10 rfl rfl (by kernel_rfl) ?_;go_simp;refine zq 11 rfl rfl (by kernel_rfl) ?_;go_simp;refine zq 12 rfl rfl (by kernel_rfl) ?_;go_simp;refine qi (by kernel_rfl) (NoPanic.normal ?_);go_wp2;go_ret;exact⟨rfl,HF.out.1,_,HF.out.2⟩
def Good (n:Nat) (p:Wr):Prop:=0≤p.1∧p.1<(n:Int)∧p.2.length=64
def qV (d:Dsk):Prop:=d.dur.length % 64=0∧1≤d.dur.length/64∧d.dur.length/64≤2048∧d.pend.length≤600∧ ∀i,i<d.pend.length→Good (d.dur.length/64) (d.pend.getD i (0,[]))
def ab0 (n:Nat) (p:Wr):Bool:=decide (0≤p.1)&& (decide (p.1<(n:Int))&& (p.2.length==64))
def jg (d:Dsk):Bool:=(d.dur.length % 64==0)&& (decide (1≤d.dur.length/64)&& (decide (d.dur.length/64≤2048)&& (decide (d.pend.length≤600)&& (List.range d.pend.length).all fun i=>ab0 (d.dur.length/64) (d.pend.getD i (0,[])))))
theorem aaK (n:Nat)(p:Wr):ab0 n p=true↔Good n p:=by simp[ab0,Good]
theorem QK (d:Dsk):jg d=true↔qV d:=by simp only[jg,qV,Bool.and_eq_true,beq_iff_eq,decide_eq_true_eq,List.all_eq_true,List.mem_range,aaK]
theorem ZC {d:Dsk}(h:qV d):jg d=true:=(QK d).2 h
theorem Ze {d:Dsk}(h: ¬qV d):jg d=false:=by
 cases e:jg d with
 |false=>rfl
 |true=>exact absurd ((QK d).1 e) h
theorem QM (w:World){lo hi:Nat}{a:Value}{d:Dsk}(h1:ZU w lo hi a d):
  Calls Tryz.prog 34 #[a] w fun e w'=>e= .returned (.bool (jg d))∧Chg 0 0 w w':=by
 obtain⟨dv,pv,rfl,v1,p1⟩:=h1;obtain⟨ao,cap,rfl,hl1,_,_⟩:=v1;obtain⟨po,pcap,rfl,hl2,_,hpc⟩:=p1;have HA:Hid (Chg 0 0 w (w.alloc (.cells #[.slice ao d.dur.length cap,.slice po d.pend.length pcap] 26))):=Chg.alloc (Chg.refl 0 0 w) _;by_cases t0:d.dur.length=0
 case pos=>
  have HV:Hid (jg d=false):=Ze (fun h=>by have:=h.2.1;omega);have t0':((d.dur.length:Int)==0)=true:=by rw[beq_iff_eq];omega
  clear hpc t0;go_enter Tryz.func34,Tryz.ntmps34;go_wp2;go_ret;exact⟨by rw[HV.out];rfl,HA.out⟩
 have t0':((d.dur.length:Int)==0)=false:=by rw[beq_eq_false_iff_ne];omega
 by_cases t3:d.dur.length≤131072
 case neg=>
  have HV:Hid (jg d=false):=Ze (fun h=>by have:=h.2.2.1;have:=h.1;omega);clear hpc;go_enter Tryz.func34,Tryz.ntmps34;go_wp2;go_ret;exact⟨by rw[HV.out];rfl,HA.out⟩
 by_cases t1:d.dur.length % 64=0
 case neg=>
  have HV:Hid (jg d=false):=Ze (fun h=>t1 h.1);have t1':((d.dur.length:Int) % 64 !=0)=true:=by simp;omega
  clear hpc;go_enter Tryz.func34,Tryz.ntmps34;go_wp2;go_ret;exact⟨by rw[HV.out];rfl,HA.out⟩
 have t1':((d.dur.length:Int) % 64 !=0)=false:=by simp;omega
 by_cases t4:d.pend.length≤600
 case neg=>
  have HV:Hid (jg d=false):=Ze (fun h=>t4 h.2.2.2.1);clear hpc;go_enter Tryz.func34,Tryz.ntmps34;go_wp2;go_ret;exact⟨by rw[HV.out];rfl,HA.out⟩
 have HC:Hid (∀wr,Chg 0 0 w wr→ ∀k,k<d.pend.length→ ∃b off ao' cap',po=some ⟨b,off,none⟩∧wr.cell? ⟨b,off+k*2,none⟩=some (za (d.pend.getD k (0,[])).1)∧wr.cell? ⟨b,off+k*2+1,none⟩=some (.slice ao' (d.pend.getD k (0,[])).2.length cap')):=by
  intro wr hch k hk;rcases hpc with e|⟨b,off,e,_,_,h⟩
  ·rw[e] at hk;simp at hk
  ·obtain⟨dv,c1,c2,ao',cap',rfl,_⟩:=h k hk;exact⟨b,off,ao',cap',e,hch.cell c1 (by omega),hch.cell c2 (by omega)⟩
 clear hpc;have t2:Hid (1≤d.dur.length/64):=by show 1≤_;omega
 have t3':Hid (d.dur.length/64≤2048):=by show _≤2048;omega
 go_enter Tryz.func34,Tryz.ntmps34;go_wp2;go_loopw [30] (fun i wr=>Chg 0 0 w wr∧ ∃k:Nat,k≤d.pend.length∧i=za k∧ ∀j,j<k→Good (d.dur.length/64) (d.pend.getD j (0,[]))) (fun i _=>d.pend.length-(intOf i).toNat)
 case atStart=>exact⟨HA.out,0,Nat.zero_le _,rfl,by intro j hj;omega⟩
 case round=>
  obtain⟨hch,k,hk,rfl,hgd⟩:=hrel;have HG:Hid (∀j,j<k→Good (d.dur.length/64) (d.pend.getD j (0,[]))):=hgd;clear hgd;by_cases hlt:k<d.pend.length
  case neg=>
   obtain rfl:k=d.pend.length:=by omega
   have HV:Hid (jg d=true):=ZC ⟨t1,t2.out,t3'.out,t4,HG.out⟩;clear HG HC;go_wp2;go_ret;exact⟨by rw[HV.out];rfl,hch⟩
  obtain⟨b,off,ao',cap',rfl,c1,c2⟩:=HC.out wr hch k hlt;have HB:Hid (¬Good (d.dur.length/64) (d.pend.getD k (0,[]))→jg d=false):=fun h=>Ze (fun hv=>h (hv.2.2.2.2 k hlt));have HS:Hid (Good (d.dur.length/64) (d.pend.getD k (0,[]))→ ∀j,j<k+1→Good (d.dur.length/64) (d.pend.getD j (0,[]))):=by
   intro h j hj;rcases Nat.lt_succ_iff_lt_or_eq.1 hj with h'|rfl
   ·exact HG.out j h'
   ·exact h
  clear HG HC;have hik:(k:Int)<(d.pend.length:Int):=by omega
  generalize d.pend.getD k (0,[])=p at*;obtain⟨q,xs⟩:=p;simp only at c1 c2;have HA2:Hid (Chg 0 0 w (wr.alloc (.cells #[za q,.slice ao' xs.length cap'] 84))):=hch.alloc _;clear HA hch;by_cases g1:0≤q
  case neg=>
   have HV:Hid (jg d=false):=HB.out (fun h=>g1 h.1);go_wp2;go_ret;exact⟨by rw[HV.out];rfl,HA2.out⟩
  by_cases g2:q<((d.dur.length/64:Nat):Int)
  case neg=>
   have HV:Hid (jg d=false):=HB.out (fun h=>g2 h.2.1);go_wp2;go_ret;exact⟨by rw[HV.out];rfl,HA2.out⟩
  by_cases g3:xs.length=64
  case neg=>
   have HV:Hid (jg d=false):=HB.out (fun h=>g3 h.2.2);have g3':((xs.length:Int) !=64)=true:=by simp;omega
   go_wp2;go_ret;exact⟨by rw[HV.out];rfl,HA2.out⟩
  have HN:=HS.out ⟨g1,g2,g3⟩;have HN':Hid (∀j,j<k+1→Good (d.dur.length/64) (d.pend.getD j (0,[]))):=HN;clear HN HS HB;have g3':((xs.length:Int) !=64)=false:=by simp;omega
  clear g3;go_wp2;go_roundw
  case rel=>exact⟨HA2.out,k+1,by omega,by go_num,HN'.out⟩
  case measure=>simp[intOf];omega
end Go.Proofs.YtacjklochmelfaaGreatDoor
