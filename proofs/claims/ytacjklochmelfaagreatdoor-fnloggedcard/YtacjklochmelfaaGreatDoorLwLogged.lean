import Derived.Test.YtacjklochmelfaaGreatDoorLogInv
import Derived.Test.YtacjklochmelfaaGreatDoorBitSpec
namespace Go.Proofs.YtacjklochmelfaaGreatDoor
open Go.RowKit
set_option maxRecDepth 100000
set_option maxHeartbeats 16000000
theorem XO {xs:List Int}{y:Int}(h:qS xs=true)(h1: ∀x∈xs,x<y)(h0:0≤y)(h2:y<2048):qS (xs++ [y])=true:=by
 rw[qY] at h⊢;intro i hi;rw[List.length_append,List.length_singleton] at hi;by_cases e:i<xs.length
 ·have e1:(xs++ [y]).getD i 0=xs.getD i 0:=by simp[List.getD_eq_getElem?_getD,List.getElem?_append_left e]
  have e2:qg (xs++ [y]) i=qg xs i:=by
   unfold qg;split
   ·rfl
   ·have:i-1<xs.length:=by omega
    simp[List.getD_eq_getElem?_getD,List.getElem?_append_left this]
  rw[e1,e2];exact h i e
 ·obtain rfl:i=xs.length:=by omega
  have e1:(xs++ [y]).getD xs.length 0=y:=by simp[List.getD_eq_getElem?_getD]
  rw[e1,jv];refine⟨?_,h2⟩;unfold qg;split
  ·omega
  ·have hl:xs.length-1<xs.length:=by omega
   rw[List.getD_eq_getElem?_getD,List.getElem?_append_left hl,List.getElem?_eq_getElem hl];exact h1 _ (List.getElem_mem hl)
structure ShP (lo tt sq fr:Int)(t:Tx):Prop where
 seq:t.seq=sq
 rh:qS (t.homes.map (·.1))=true
 rr:qS t.revs=true
 bh: ∀x∈t.homes,lo≤x.1∧x.1<fr∧x.1<tt∧Byt x.2∧x.2.length=64
 br: ∀x∈t.revs,lo≤x∧x<fr∧x<tt
 ap: ∀x∈t.homes,x.1∉t.revs
 few:t.homes.length+t.revs.length≤128
 lo':lo≤fr
theorem ShP.nil {lo tt sq:Int}:ShP lo tt sq lo ⟨sq,[],[]⟩:=⟨rfl,by simp[qS],by simp[qS],by simp,by simp,by simp,by simp,Int.le_refl _⟩
theorem ShP.up {lo tt sq fr fr':Int}{t:Tx}(h:ShP lo tt sq fr t)(hf:fr≤fr'):ShP lo tt sq fr' t:=
 ⟨h.seq,h.rh,h.rr,fun x hx=>⟨(h.bh x hx).1,by have:=(h.bh x hx).2.1;omega,(h.bh x hx).2.2⟩,fun x hx=>⟨(h.br x hx).1,by have:=(h.br x hx).2.1;omega,(h.br x hx).2.2⟩,h.ap,h.few,by have:=h.lo';omega⟩
theorem ShP.home {lo tt sq fr:Int}{t:Tx}(h:ShP lo tt sq fr t)(hl:0≤lo)(ht:tt≤2048)(hf:fr<tt){ys:List Int}(hy:Byt ys∧ys.length=64)(hn:t.homes.length+t.revs.length<128):ShP lo tt sq (fr+1) ⟨t.seq,t.homes++ [(fr,ys)],t.revs⟩:=by
 have hlo:=h.lo';refine⟨h.seq,?_,h.rr,fun x hx=>?_,fun x hx=>⟨(h.br x hx).1,by have:=(h.br x hx).2.1;omega,(h.br x hx).2.2⟩,fun x hx=>?_,by simp only[List.length_append,List.length_singleton];omega,by omega⟩
 ·rw[List.map_append];refine XO h.rh (fun x hx=>?_) (show 0≤fr by omega) (show fr<2048 by omega);obtain⟨e,he,rfl⟩:=List.mem_map.1 hx;exact(h.bh e he).2.1
 ·rcases List.mem_append.1 hx with hx|hx
  ·have:=h.bh x hx;exact⟨this.1,by omega,this.2.2⟩
  ·rw[List.mem_singleton.1 hx];exact⟨hlo,by simp only;omega,hf,hy⟩
 ·rcases List.mem_append.1 hx with hx|hx
  ·exact h.ap x hx
  ·rw[List.mem_singleton.1 hx];intro hm;have:=(h.br _ hm).2.1;simp only at this;omega
theorem ShP.rev {lo tt sq fr:Int}{t:Tx}(h:ShP lo tt sq fr t)(hl:0≤lo)(ht:tt≤2048)(hf:fr<tt)(hn:t.homes.length+t.revs.length<128):ShP lo tt sq (fr+1) ⟨t.seq,t.homes,t.revs++ [fr]⟩:=by
 have hlo:=h.lo';refine⟨h.seq,h.rh,?_,fun x hx=>⟨(h.bh x hx).1,by have:=(h.bh x hx).2.1;omega,(h.bh x hx).2.2⟩,fun x hx=>?_,fun x hx hm=>?_,by simp only[List.length_append,List.length_singleton];omega,by omega⟩
 ·exact XO h.rr (fun x hx=>(h.br x hx).2.1) (by omega) (by omega)
 ·rcases List.mem_append.1 hx with hx|hx
  ·have:=h.br x hx;exact⟨this.1,by omega,this.2.2⟩
  ·rw[List.mem_singleton.1 hx];exact⟨hlo,by omega,hf⟩
 ·rcases List.mem_append.1 hm with hm|hm
  ·exact h.ap x hx hm
  ·have:=(h.bh x hx).2.1;have:=List.mem_singleton.1 hm;omega
theorem ShP.good {lo tt sq fr hi:Int}{t:Tx}(h:ShP lo tt sq fr t)(hq:1≤sq∧sq≤4294967295)(hn:1≤t.homes.length+t.revs.length)(hh:tt≤hi+1):UR lo hi t:=by
 refine⟨⟨⟨by rw[h.seq];exact hq,hn,h.few⟩,h.rh,h.rr,fun i hi=>?_⟩,fun x hx=>(h.bh x hx).2.2.2.1,fun x hx=>⟨(h.bh x hx).1,by have:=(h.bh x hx).2.2.1;omega⟩,fun x hx=>⟨(h.br x hx).1,by have:=(h.br x hx).2.2;omega⟩⟩;have hm:t.homes.getD i (0,[])∈t.homes:=by rw[List.getD_eq_getElem?_getD,List.getElem?_eq_getElem hi];exact List.getElem_mem hi
 exact⟨(h.bh _ hm).2.2.2.2,h.ap _ hm⟩
theorem ShP.lone {lo tt sq fr:Int}{t:Tx}(h:ShP lo tt sq fr t)(hl:0≤lo)(hlt:lo<tt)(ht:tt≤2048)(hn:t.homes.length+t.revs.length=0):ShP lo tt sq tt ⟨t.seq,t.homes,[tt-1]⟩:=by
 obtain⟨q,hs,rs⟩:=t;simp only at hn;obtain rfl:hs= []:=List.eq_nil_of_length_eq_zero (by omega);refine⟨h.seq,h.rh,?_,by simp,fun x hx=>?_,by simp,by simp,by omega⟩
 ·have:=XO (xs:= []) (y:=tt-1) (by simp[qS]) (by simp) (by omega) (by omega);simpa using this
 ·rw[List.mem_singleton.1 hx];omega
theorem zr.to0 {w:World}{lo hi:Nat}{k:IntKind}{v:Value}{xs:List Int}(h:zr w lo hi k v xs):zr w 0 hi k v xs:=by
 obtain⟨ao,cap,h1,h2,h3,h4⟩:=h;exact⟨ao,cap,h1,h2,h3,h4.imp id (fun⟨b,off,e1,_,e3⟩=>⟨b,off,e1,Nat.zero_le _,e3⟩)⟩
theorem K6 {ops:Array Oper}{rest:List Oper}{o:Oper}{a:Act}{w:World}{Q:Exit→Act→World→Prop}(hgd:o.guard=none)(s x:Operand)
  (ho:o.op= .call {callee:= .builtin .append,args:= #[s,x],argTypes:= #[22,22]})
  (base:Nat) (sv:Value) (xs:List Int) (hs:a.eval s=sv) (hO:zi w base 5 sv xs) (hbase:base≤w.heap.size) (lo hi:Nat) (xv:Value) (ys:List Int) (hx:a.eval x=xv) (hv:zr w lo hi .u8 xv ys) (hl:xs.length+ys.length≤1048600)
  (h: ∀v' w',zi w' base 5 v' (xs++ys)→Chg base w.heap.size w w'→wpList Tryz.prog ops Q rest (a.put o.dst v') w'):wpList Tryz.prog ops Q (o::rest) a w:=by
 by_cases h0:0<ys.length
 ·refine wpList_plain hgd fun _ hK=>?_;obtain⟨i,hi,hz0,hz1,hz2⟩:=info_parts Tryz.infoU1;obtain⟨ao,cap,rfl,_,_,hcell⟩:=hv;obtain⟨b,off,rfl,hc⟩: ∃b off,ao=some ⟨b,off,none⟩∧ ∀i,i<ys.length→w.cell? ⟨b,off+i,none⟩=some (zb (ys.getD i 0)):=by
   rcases hcell with e|⟨b,off,e,_,_,h3⟩
   ·rw[e] at h0;simp at h0
   ·exact⟨b,off,e,h3⟩
  have HNW: ∀j u,(ys.map (Value.int .u8))[j]?=some u→w.cell? ((⟨b,off,none⟩:Addr).add j)=some u:=by
   intro j u hj;have hjl:j<ys.length:=by have:=(List.getElem?_eq_some_iff.1 hj).1;simpa using this
   rw[Addr.add_mid,hc j hjl,←hj];simp[List.getD_eq_getElem?_getD,hjl]
  have hrow:=hO;refine wp_append_own _ s x 22 ho base 5 i (zb 0) 1 1 Tryz.underlying22 hi hz0 hz1 hz2 rfl (by decide) sv xs.length (xs.map (Value.int .u8)) hs hrow ⟨b,off,none⟩ ys.length cap (ys.map (Value.int .u8)) hx (by simp) HNW (ints_oneCell _ _) (by unfold maxLen;omega) (by omega) hbase ?_;intro v' w2 hown hgrow _;refine hK _ _ (h v' w2 ?_ (Chg.ofGrown hgrow (fun k hk _=>World.ownsRow.lt hrow k hk)))
  unfold zi;rw[List.length_append,List.map_append];exact hown
 ·obtain rfl:ys= []:=List.eq_nil_of_length_eq_zero (by omega);obtain⟨i,hi',hz0,hz1,hz2⟩:=info_parts Tryz.infoU1;obtain⟨ao,cap,rfl,_,⟨_,hn⟩,_⟩:=hv;have hrow:=hO
  cases ao with
  |none=>
   obtain rfl:=hn rfl;refine wpList_append_own_none hgd s x 22 ho base 5 i 1 Tryz.underlying22 hi' sv xs.length _ hs hrow hx ?_;exact h sv w (by rw[List.append_nil];exact hO) (Chg.refl _ _ _)
  |some ad=>
   refine wpList_plain hgd fun K hK=>?_;refine wp_append_own _ s x 22 ho base 5 i (zb 0) 1 1 Tryz.underlying22 hi' hz0 hz1 hz2 rfl (by decide) sv xs.length (xs.map (Value.int .u8)) hs hrow ad 0 cap [] hx rfl (by simp) (by simp) (by unfold maxLen;simp at hl;omega) (by simp at hl;omega) hbase ?_;intro v' w2 hown hgrow _;refine hK _ _ (h v' w2 ?_ (Chg.ofGrown hgrow (fun k hk _=>World.ownsRow.lt hrow k hk)))
   unfold zi;rw[List.append_nil];simpa using hown
structure ShI (lo tt sq:Int)(wm:World)(M:Nat)(w:World)(fr:Int)(t:Tx)(hv rv:Value):Prop where
 em:wm.heap.size=M
 ch:Chg M w.heap.size wm w
 ob:w.heap[M]?=some (.cells #[za sq,hv,rv] 35 (0,0))
 ow:qE w M hv rv t
 p:ShP lo tt sq fr t
theorem ShI.there {lo tt sq:Int}{wm:World}{M:Nat}{w:World}{fr:Int}{t:Tx}{hv rv:Value}(h:ShI lo tt sq wm M w fr t hv rv){T:Nat}{o:Obj}(hT:wm.heap[T]?=some o):w.heap[T]?=some o:=by
 have h1:=(gLt hT);have:=h.em;exact(h.ch.block T h1 (by omega)).trans hT
theorem ShI.spt {lo tt sq:Int}{wm:World}{M:Nat}{w:World}{fr:Int}{t:Tx}{hv rv:Value}(h:ShI lo tt sq wm M w fr t hv rv){base:Nat}{a b:Value}{ps:List Wr}{rs:List Int}(hS:SpT wm base a b ps rs):SpT w base a b ps rs:=hS.chg h.ch (Or.inr (Or.inr (by rw[h.em];exact Nat.le_refl _)))
theorem ShI.drew {lo tt sq:Int}{wm:World}{M:Nat}{w:World}{fr:Int}{t:Tx}{hv rv:Value}(h:ShI lo tt sq wm M w fr t hv rv):ShI lo tt sq wm M w.drew fr t hv rv:=
 ⟨h.em,Chg.drew h.ch,h.ob,h.ow.chg (Chg.drew (Chg.refl 0 0 w)) (by omega),h.p⟩
theorem ShI.next {lo tt sq:Int}{wm:World}{M:Nat}{w w':World}{fr fr':Int}{t t':Tx}{hv rv hv' rv':Value}(h:ShI lo tt sq wm M w fr t hv rv){r:Nat}(c:Chg M r w w')(hr:r≤w'.heap.size)(hob:w'.heap[M]?=some (.cells #[za sq,hv',rv'] 35 (0,0)))(how:qE w' M hv' rv' t')(hp:ShP lo tt sq fr' t'):ShI lo tt sq wm M w' fr' t' hv' rv':=
 ⟨h.em,(h.ch.widen (Or.inl (Nat.le_refl _)) (Or.inl c.size)).trans (c.widen (Or.inl (Nat.le_refl _)) (Or.inl hr)),hob,how,hp⟩
theorem ShI.up {lo tt sq:Int}{wm:World}{M:Nat}{w:World}{fr fr':Int}{t:Tx}{hv rv:Value}(h:ShI lo tt sq wm M w fr t hv rv)(hf:fr≤fr'):ShI lo tt sq wm M w fr' t hv rv:=⟨h.em,h.ch,h.ob,h.ow,h.p.up hf⟩
theorem ShI.app {lo tt sq:Int}{wm:World}{M:Nat}{w:World}{fr:Int}{t:Tx}{hv rv:Value}(h:ShI lo tt sq wm M w fr t hv rv)(hl:0≤lo)(ht:tt≤2048)(hf:fr<tt)(hn:t.homes.length+t.revs.length<128):
  (zP (w.alloc (.cells #[za fr] 2)) M 2 rv t.revs∧zr (w.alloc (.cells #[za fr] 2)) 0 (w.heap.size+1) .i64 (.slice (some (zd w.heap.size)) 1 1) [fr]∧M≤(w.alloc (.cells #[za fr] 2)).heap.size)∧
  ∀X8 v',zP X8 M 2 v' (t.revs++ [fr])→(w.alloc (.cells #[za fr] 2)).grownBy X8 rv.ownBlock→X8.heap[M]?=some (.cells #[za sq,hv,rv] 35 (0,0))∧ShI lo tt sq wm M (X8.setCell ⟨M,2,none⟩ v') (fr+1) ⟨t.seq,t.homes,t.revs++ [fr]⟩ hv v':=by
 have cz:Chg 0 0 w (w.alloc (.cells #[za fr] 2)):=Chg.alloc (Chg.refl 0 0 w) _;have zz:=zh w (.cells #[za fr] 2);have sz:=cz.size;have hM:=(gLt h.ob);obtain⟨es,o1,o2,o3,o4,o5,o6⟩:=h.ow;have hOz:zP (w.alloc (.cells #[za fr] 2)) M 2 rv t.revs:=o4.chg cz (fun g _=>by omega);refine⟨⟨hOz,⟨_,1,rfl,by simp,⟨by simp,by simp⟩,Or.inr ⟨w.heap.size,0,rfl,Nat.zero_le _,Nat.lt_succ_self _,fun i hi=>?_⟩⟩,by omega⟩,?_⟩
 ·obtain rfl:i=0:=by simpa using hi
  exact Boxed.cell zz
 ·intro X8 v' o8 gr8;have hk:=zU.grownE gr8 hOz;have hk1: ∀(j:Nat) (cur:Array Value) (T:TypeId),T≠2→w.heap[j]?=some (.cells cur T (0,0))→X8.heap[j]?=some (.cells cur T (0,0)):=fun j cur T hT hh=>hk j cur T hT ((cz.block j (gLt hh) (by omega)).trans hh);have hS8:=hk1 _ _ _ (by decide) h.ob;have s8:=gr8.size;have cY:Chg M (M+1) X8 (X8.setCell ⟨M,2,none⟩ v'):=(Chg.refl _ _ X8).setCell (p:=⟨M,2,none⟩) (Or.inl (by simp)) _
  have sY:=cY.size;have cg:=(cz.widen (by omega) (by omega)).trans (Chg.ofGrown gr8 (fun k hk hlt=>⟨(World.ownsRow.lt hOz k hk).1,by omega⟩));have hT8:qE X8 M hv v' ⟨t.seq,t.homes,t.revs++ [fr]⟩:=⟨es,o1.keep (fun j cur _ hh=>hk1 j cur _ (by decide) hh) (fun j cur _ hh=>hk1 j cur _ (by decide) hh),o2,o3,o8,by simp only[List.length_append,List.length_singleton];omega,o6⟩;refine⟨hS8,h.next (cg.trans (cY.widen (by omega) (by omega))) (by omega) (js hS8 _) (hT8.keep (fun j cur T _ hT hh=>(cY.block j (gLt hh) (by
   have:j≠M:=fun e=>by rw[e,hS8] at hh;cases hh;exact hT rfl
   omega)).trans hh)) (h.p.rev hl ht hf hn)⟩
theorem ShI.one {lo tt sq:Int}{wm:World}{M:Nat}{w:World}{fr:Int}{t:Tx}{hv rv:Value}(h:ShI lo tt sq wm M w fr t hv rv)(hl:0≤lo)(hlt:lo<tt)(ht:tt≤2048)(hn:t.homes.length+t.revs.length=0):
  (w.alloc (.cells #[za (tt-1)] 2)).heap[M]?=some (.cells #[za sq,hv,rv] 35 (0,0))∧ShI lo tt sq wm M ((w.alloc (.cells #[za (tt-1)] 2)).setCell ⟨M,2,none⟩ (.slice (some (zd w.heap.size)) 1 1)) tt ⟨t.seq,t.homes,[tt-1]⟩ hv (.slice (some (zd w.heap.size)) 1 1):=by
 have cz:Chg 0 0 w (w.alloc (.cells #[za (tt-1)] 2)):=Chg.alloc (Chg.refl 0 0 w) _;have sz:=cz.size;have hM:=(gLt h.ob);obtain⟨es,o1,o2,o3,o4,o5,o6⟩:=h.ow;have hk1: ∀(j:Nat) (cur:Array Value) (T:TypeId),w.heap[j]?=some (.cells cur T (0,0))→(w.alloc (.cells #[za (tt-1)] 2)).heap[j]?=some (.cells cur T (0,0)):=fun j cur T hh=>(cz.block j (gLt hh) (by omega)).trans hh;have hS8:=hk1 _ _ _ h.ob;have cY:Chg M (M+1) (w.alloc (.cells #[za (tt-1)] 2)) ((w.alloc (.cells #[za (tt-1)] 2)).setCell ⟨M,2,none⟩ (.slice (some (zd w.heap.size)) 1 1)):=(Chg.refl _ _ _).setCell (p:=⟨M,2,none⟩) (Or.inl (by simp)) _
 have sY:=cY.size;have o8:zP (w.alloc (.cells #[za (tt-1)] 2)) M 2 (.slice (some (zd w.heap.size)) 1 1) [tt-1]:=World.ownsRow_lit (base:=M) (e:=2) (size:=1) w #[za (tt-1)] 1 (by omega) (by unfold maxLen;omega) rfl;have hT8:qE (w.alloc (.cells #[za (tt-1)] 2)) M hv (.slice (some (zd w.heap.size)) 1 1) ⟨t.seq,t.homes,[tt-1]⟩:=⟨es,o1.keep (fun j cur _ hh=>hk1 j cur _ hh) (fun j cur _ hh=>hk1 j cur _ hh),o2,o3,o8,by simp,o6⟩
 refine⟨hS8,h.next ((cz.widen (by omega) (by omega)).trans (cY.widen (lo':=M) (hi':=(w.alloc (.cells #[za (tt-1)] 2)).heap.size) (by omega) (by omega))) (by omega) (js hS8 _) (hT8.keep (fun j cur T _ hT hh=>(cY.block j (gLt hh) (by
  have:j≠M:=fun e=>by rw[e,hS8] at hh;cases hh;exact hT rfl
  omega)).trans hh)) (h.p.lone hl hlt ht hn)⟩
structure Sh1 (lo tt sq:Int)(wm:World)(M n:Nat)(x3 x14:Value)(w:World):Prop where
 ex: ∃(fr:Int) (k:Nat) (t:Tx) (hv rv:Value),x3=za fr∧x14=za k∧(k≤n∧fr≤2100)∧ShI lo tt sq wm M w fr t hv rv
def NU (w w':World) (lo tt sq:Int) (e:Ending):Prop:= ∃hv rv t,e= .returned (.agg #[za sq,hv,rv])∧qE w' w.heap.size hv rv t∧t.seq=sq∧UR lo (tt-1) t∧Chg 0 0 w w'
theorem ShI.fin {lo tt sq:Int}{wm:World}{M:Nat}{w0 w wf:World}{fr:Int}{t:Tx}{hv rv:Value}(h:ShI lo tt sq wm M w fr t hv rv)(hm:Chg 0 0 w0 wm)(hM:w0.heap.size<M)(hcf:Chg w0.heap.size (w0.heap.size+1) w wf)(hn:1≤t.homes.length+t.revs.length)(hq:1≤sq∧sq≤4294967295):NU w0 wf lo tt sq (.returned (.agg #[za sq,hv,rv])):=by
 refine⟨hv,rv,t,rfl,(h.ow.chg hcf (by omega)).low (by omega),h.p.seq,h.p.good hq hn (by omega),?_⟩;exact(hm.step h.ch (Or.inr (Or.inl (by omega)))).step hcf (Or.inr (Or.inl (Nat.le_refl _)))
theorem Vn {w:World}{cv:Value}{code:List Int}{hi:Nat}(hb:Byt code)(hl:code.length≤1048576)(hv:zr w 0 hi .u8 cv code)(i:Nat)(hi9:i≤100)(sq lo tt:Int)(hq:1≤sq∧sq≤4294967295)(hlt:0≤lo∧lo<tt∧tt≤2048):
  Calls Tryz.prog 7 #[cv,za i,za sq,za lo,za tt] w fun e w'=>NU w w' lo tt sq e:=by
 obtain⟨ao,cap,rfl,hv2⟩:=id hv;have z2:=zh w (.cells #[za 0,zc,zc] 35);have c1:Chg 0 0 w (w.alloc (.cells #[za 0,zc,zc] 35)):=Chg.alloc (Chg.refl 0 0 w) _;have hs1:w.heap.size<(w.alloc (.cells #[za 0,zc,zc] 35)).heap.size:=(gLt z2);have Hv1:Hid (zr (w.alloc (.cells #[za 0,zc,zc] 35)) 0 hi .u8 (.slice ao code.length cap) code):=hv.chg c1 (by omega);clear hv hv2;have e1:(w.alloc (.cells #[za 0,zc,zc] 35)).heap.size=w.heap.size+1:=World.size_alloc ..
 have c2:Chg 0 0 (w.alloc (.cells #[za 0,zc,zc] 35)) ((w.alloc (.cells #[za 0,zc,zc] 35)).alloc (.cells #[zb (i:Int),zb ((i:Int)*7 % 256)] 5)):=Chg.alloc (Chg.refl 0 0 _) _;have HO:Hid (zi ((w.alloc (.cells #[za 0,zc,zc] 35)).alloc (.cells #[zb (i:Int),zb ((i:Int)*7 % 256)] 5)) (w.heap.size+1) 5 (.slice (some (zd (w.heap.size+1))) 2 2) [(i:Int),(i:Int)*7 % 256]∧w.heap.size+1≤((w.alloc (.cells #[za 0,zc,zc] 35)).alloc (.cells #[zb (i:Int),zb ((i:Int)*7 % 256)] 5)).heap.size∧zr ((w.alloc (.cells #[za 0,zc,zc] 35)).alloc (.cells #[zb (i:Int),zb ((i:Int)*7 % 256)] 5)) 0 hi .u8 (.slice ao code.length cap) code):=by
  have:=World.ownsRow_lit (base:=w.heap.size+1) (e:=5) (size:=1) (w.alloc (.cells #[za 0,zc,zc] 35)) #[zb (i:Int),zb ((i:Int)*7 % 256)] 2 (by omega) (by unfold maxLen;omega) rfl;rw[e1] at this;exact⟨this,by have:=c2.size;omega,Hv1.out.chg c2 (by omega)⟩
 have Hc:Hid (Chg 0 0 w ((w.alloc (.cells #[za 0,zc,zc] 35)).alloc (.cells #[zb (i:Int),zb ((i:Int)*7 % 256)] 5))):=c1.trans c2;have Hz:Hid (((w.alloc (.cells #[za 0,zc,zc] 35)).alloc (.cells #[zb (i:Int),zb ((i:Int)*7 % 256)] 5)).heap[w.heap.size]?=some (.cells #[za 0,zc,zc] 35 (0,0))):=(c2.block _ (by omega) (by omega)).trans z2;clear z2 c1 c2 e1 hs1 Hv1;go_enter Tryz.func7,Tryz.ntmps7;go_upto_region 2 with(at_builtin;refine K6 rfl (.tmp 21) (.tmp 22) rfl (w.heap.size+1) (.slice (some (zd (w.heap.size+1))) 2 2) [(i:Int),(i:Int)*7 % 256] rfl HO.out.1 (by have:=HO.out.2.1;omega) 0 hi (.slice ao code.length cap) code rfl HO.out.2.2 (by simp;omega) ?_;intro sv w3 ho3 hc3)
 generalize (w.alloc (.cells #[za 0,zc,zc] 35)).alloc (.cells #[zb (i:Int),zb ((i:Int)*7 % 256)] 5)=w2 at*;have hx3:Byt ([(i:Int),(i:Int)*7 % 256]++code):=by
  intro x hx;rcases List.mem_append.1 hx with hx|hx
  ·simp at hx;omega
  ·exact hb x hx
 have hs3:=hc3.size;have HV3:Hid (zr w3 0 w3.heap.size .u8 sv ([(i:Int),(i:Int)*7 % 256]++code)):=(ho3.view (by simp;omega) (fun g hg=>(ho3.lt g hg).2)).to0;have Hc3:Hid (Chg 0 0 w w3):=Hc.out.step hc3 (Or.inr (Or.inl (by omega)));have Hz3:Hid (w3.heap[w.heap.size]?=some (.cells #[za 0,zc,zc] 35 (0,0))):=(hc3.block _ (by have:=HO.out.2.1;omega) (by omega)).trans Hz.out;obtain⟨sa,sn,sc,rfl⟩: ∃a n c,sv= .slice a n c:=by obtain⟨a,c,e,_⟩:=HV3.out;exact⟨a,_,c,e⟩
 clear ho3 hc3 Hc Hz HO;go_wp2_with fail;refine(Js hx3 (by simp;omega) HV3.out (Nat.le_refl _)).mono ?_;rintro e w4 ⟨tq,thv,trv,ps,rs,rfl,hS,hf,hc4⟩;obtain⟨tha,thc,rfl,hrow⟩:=hS.rows;obtain⟨tra,trc,rfl⟩:=hS.rv'.shape;clear hrow;obtain⟨n,Hn⟩: ∃n,Hid (n=ps.length):=⟨_,rfl⟩;obtain⟨m,Hm⟩: ∃m,Hid (m=rs.length):=⟨_,rfl⟩;rw[←Hn.out,←Hm.out] at hS hf⊢;have hs4:=hc4.size;have cm:Chg 0 0 w4 (w4.alloc (.cells #[za tq,.slice tha n thc,.slice tra m trc] 35)):=Chg.alloc (Chg.refl 0 0 _) _
 have em:(w4.alloc (.cells #[za tq,.slice tha n thc,.slice tra m trc] 35)).heap.size=w4.heap.size+1:=World.size_alloc ..;have HM:Hid (SpT (w4.alloc (.cells #[za tq,.slice tha n thc,.slice tra m trc] 35)) w3.heap.size (.slice tha n thc) (.slice tra m trc) ps rs∧(w4.alloc (.cells #[za tq,.slice tha n thc,.slice tra m trc] 35)).heap[w4.heap.size]?=some (.cells #[za tq,.slice tha n thc,.slice tra m trc] 35 (0,0))∧(w4.alloc (.cells #[za tq,.slice tha n thc,.slice tra m trc] 35)).heap[w.heap.size]?=some (.cells #[za 0,zc,zc] 35 (0,0))∧Chg 0 0 w (w4.alloc (.cells #[za tq,.slice tha n thc,.slice tra m trc] 35))):=by
  refine⟨hS.chg cm (by omega),zh _ _,?_,(Hc3.out.trans hc4).trans cm⟩;have hz3:=(gLt Hz3.out);exact(cm.block _ (by omega) (by omega)).trans ((hc4.block _ hz3 (by omega)).trans Hz3.out)
 have HI:Hid (ShI lo tt sq (w4.alloc (.cells #[za tq,.slice tha n thc,.slice tra m trc] 35)) (w4.heap.size+1) ((w4.alloc (.cells #[za tq,.slice tha n thc,.slice tra m trc] 35)).alloc (.cells #[za sq,zc,zc] 35)) lo ⟨sq,[],[]⟩ (zc) (zc)):=by
  refine⟨em,(Chg.alloc (Chg.refl 0 0 _) _).widen (by omega) (by omega),by rw[←em];exact zh _ _,⟨[],qj.zero _ _,rfl,by simp,⟨rfl,Or.inl ⟨rfl,rfl⟩⟩,by simp,by simp⟩,ShP.nil⟩
 have hnm:n≤200∧m≤101:=hf;have hT1:w4.heap.size<(w4.alloc (.cells #[za tq,.slice tha n thc,.slice tra m trc] 35)).heap.size:=by omega
 clear hS hf hc4 cm HV3 Hc3 Hz3 hs3 hs4;clear em;go_wp2;generalize (w4.alloc (.cells #[za tq,.slice tha n thc,.slice tra m trc] 35)).alloc (.cells #[za sq,zc,zc] 35)=w6 at*;generalize w4.alloc (.cells #[za tq,.slice tha n thc,.slice tra m trc] 35)=wm at*;generalize w4.heap.size=T at*;go_loopw [3,14] (fun x3 x14 wr=>Sh1 lo tt sq wm (T+1) n x3 x14 wr) (fun _ x14 _=>n-(intOf x14).toNat)
 case atStart=>exact⟨⟨lo,0,_,_,_,rfl,rfl,⟨by omega,by omega⟩,HI.out⟩⟩
 case round=>
  clear HI;obtain⟨fr,k,t,hv,rv,rfl,rfl,⟨hkn,hfr⟩,hI⟩:=hrel.ex;obtain⟨⟨a0,a1,a2⟩,_⟩:=tri (hI.there HM.out.2.1);have HI:Hid (ShI lo tt sq wm (T+1) wr fr t hv rv):=hI;clear hI hrel;go_upto_region 5 with fail;go_cut [37] from 28 to 77 (fun x wx=>x= .bool (decide (k<n∧fr<tt))∧wx=wr)
  case first=>
   by_cases h1:k<n
   ·by_cases h2:fr<tt
    ·have e1:decide ((k:Int)<(n:Int))=true:=decide_eq_true (by omega);have e2:decide (fr<tt)=true:=decide_eq_true h2;go_wp2;go_meet;exact⟨by rw[show decide (k<n∧fr<tt)=true from decide_eq_true (by omega)],rfl⟩
    ·have e1:decide ((k:Int)<(n:Int))=true:=decide_eq_true (by omega);have e2:decide (fr<tt)=false:=decide_eq_false h2;go_wp2;go_meet;exact⟨by rw[show decide (k<n∧fr<tt)=false from decide_eq_false (by omega)],rfl⟩
   ·have e1:decide ((k:Int)<(n:Int))=false:=decide_eq_false (by omega);go_wp2;go_meet;exact⟨by rw[show decide (k<n∧fr<tt)=false from decide_eq_false (by omega)],rfl⟩
  case rest=>
   obtain⟨rfl,hwc⟩:=hcut;obtain rfl:wr=wc:=hwc.symm;by_cases hc:k<n∧fr<tt
   ·have hd:decide (k<n∧fr<tt)=true:=decide_eq_true hc;have hkp:k<ps.length:=by have:=Hn.out;omega
    obtain⟨tha',thc',e,hrow⟩:=HM.out.1.rows;obtain⟨g,gcur,rfl,hg,hgc,hgcap⟩:=hrow (by omega);simp only[Value.slice.injEq] at e;obtain⟨rfl,e2,rfl⟩:=e;clear e2 hrow hgc;obtain⟨c0,⟨dv,c1,hdv⟩,fz0,fz1⟩:=(HI.out.spt HM.out.1).at k hkp;have hfp:=HM.out.1.fine (ps.getD k (0,[])) (by rw[List.getD_eq_getElem?_getD,List.getElem?_eq_getElem hkp];exact List.getElem_mem _);obtain⟨ys,Hys⟩: ∃ys,Hid (ys=(ps.getD k (0,[])).2):=⟨_,rfl⟩
    rw[←Hys.out] at hfp hdv;have Hfp:Hid (Byt ys∧0<ys.length∧ys.length≤64):=hfp;have Hdv:Hid (zr wr w3.heap.size wr.heap.size .u8 dv ys):=hdv.view hfp.2.2;obtain⟨da,dcap,rfl,-⟩: ∃a c,dv= .slice a ys.length c∧True:=by obtain⟨a,b,c,_,e,_⟩:=hdv;exact⟨_,_,e,trivial⟩
    obtain⟨L,HL⟩: ∃L,Hid (L=ys.length):=⟨_,rfl⟩;rw[←HL.out] at c1 Hdv;have hL:L≤64:=by have:=HL.out;omega
    clear hfp hdv c0 fz0 fz1;obtain⟨es,o1,o2,o3,o4,o5,o6⟩:=HI.out.ow;obtain⟨ha,hn,hcp,rfl⟩:=o1.slice;obtain rfl:hn=es.length:=by
     rcases o1.row.2 with⟨e,e2⟩|⟨_,_,_,e,_⟩
     ·simp only[Value.slice.injEq] at e;omega
     ·simp only[Value.slice.injEq] at e;exact e.2.1
    obtain⟨ra,rc,rfl⟩:=o4.shape;obtain⟨rn,Hrn⟩: ∃rn,Hid (rn=t.revs.length):=⟨_,rfl⟩;rw[←Hrn.out] at HI o4;have Hes:Hid ((qj wr (T+1) (.slice ha es.length hcp) es∧es.map (fun e=>(e.1,e.2.2))=t.homes)∧(∀e∈es,e.2.2.length=64∧Byt e.2.2)∧zP wr (T+1) 2 (.slice ra rn rc) t.revs):=⟨⟨o1,o2⟩,o3,o4⟩;have hel:es.length=t.homes.length:=by rw[←o2,List.length_map]
    have hcnt:es.length+rn≤128:=by have:=HI.out.p.few;have:=Hrn.out;omega
    have Hel:Hid _:=hel;obtain⟨cn,Hcn⟩: ∃cn,Hid (cn=es.length+rn):=⟨_,rfl⟩;have hcn:cn≤128:=by have:=Hcn.out;omega
    have hw':IntKind.i64.wrap ((es.length:Int)+(rn:Int))=(cn:Int):=by have:=Hcn.out;rw[IntKind.wrap_i64];omega
    clear hcnt;clear o1 o2 o3 o4 o5 o6 hel;obtain⟨⟨b0,b1,b2⟩,fb⟩:=tri HI.out.ob;have hkL:(k:Int)<(n:Int):=by omega
    go_upto_region 7 with fail;go_cut [57] from 28 to 77 (fun x wx=>x= .bool (decide (L=64∧cn<128))∧wx=wr)
    case first=>
     by_cases h1:L=64
     ·subst h1;by_cases h2:cn<128
      ·have e2:=decide_eq_true (by omega);have e3:(cn:Int)<128:=by omega
       go_wp2;go_meet;exact⟨by congr 1;symm;exact decide_eq_true ⟨trivial,by omega⟩,rfl⟩
      ·have e2:=decide_eq_false (by omega);have e3: ¬(cn:Int)<128:=by omega
       go_wp2;go_meet;exact⟨by congr 1;symm;exact decide_eq_false (fun h=>by have:=h.2;omega),rfl⟩
     ·have e1:((L:Int)==64)=false:=by simp;omega
      go_wp2;go_meet;exact⟨by rw[show decide (L=64∧cn<128)=false from decide_eq_false (by omega)],rfl⟩
    case rest=>
     obtain⟨rfl,hwc⟩:=hcut;obtain rfl:wr=wc:=hwc.symm;generalize hbb:decide (L=64∧cn<128)=bb
     cases bb
     rotate_left
     ·obtain⟨hL64,hcn2⟩:=of_decide_eq_true hbb;clear hbb;subst hL64;obtain⟨gc,hgc0⟩:=Qx HM.out.1;have Hg:Hid _:=hgc0;have hgc:gc[k*2+1]?=some (.slice da 64 dcap):=by
       have h9:=HI.out.there hgc0;have h8:=c1;simp[World.cell?,h9] at h8;exact h8
      have hgT:g<T+1:=by have h9:=(gLt hgc0);have:=HI.out.em;omega
      clear hgc0;go_wp2;refine zW 15 (fun w':World=>w'.heap[T+1]?=some (.cells #[za sq,.slice ha es.length hcp,.slice ra rn rc] 35 (0,0))∧w'.heap[T]?=some (.cells #[za tq,.slice (some (zd g)) n thc,.slice tra m trc] 35 (0,0))∧w'.heap[g]?=some (.cells gc 61 (0,0))) (by kernel_rfl) ?_;have HX:Hid _:=HI.out.drew;have cd:=Chg.drew (Chg.refl 0 0 wr);have Hed:Hid (((qj wr.drew (T+1) (.slice ha es.length hcp) es∧es.map (fun e=>(e.1,e.2.2))=t.homes)∧(∀e∈es,e.2.2.length=64∧Byt e.2.2)∧zP wr.drew (T+1) 2 (.slice ra rn rc) t.revs)∧zr wr.drew w3.heap.size wr.drew.heap.size .u8 (.slice da 64 dcap) ys):=⟨⟨⟨Hes.out.1.1.chg cd (by omega),Hes.out.1.2⟩,Hes.out.2.1,Hes.out.2.2⟩,Hdv.out.chg cd (by omega)⟩
      have HS:Hid (_∧_∧_):=⟨HX.out.ob,HX.out.there HM.out.2.1,HX.out.there Hg.out⟩;clear cd HI Hes Hdv a0 a1 a2 b0 b1 b2 fb c1 hw';generalize wr.drew=X at*;refine wTk 0 (.pointer (some ⟨T+1,1,none⟩)) rfl (fun w' hw'=>by obtain⟨q1,q2,q3⟩:=hw';have q4:w'.cell? ⟨g,k*2+1,none⟩=some (.slice da 64 dcap):=(by simp[World.cell?,q3,hgc]);obtain⟨⟨h0,h1,h2⟩,_⟩:=tri q1;obtain⟨⟨u0,u1,u2⟩,_⟩:=tri q2;go_simp) HS.out ?_
      go_simp;refine wTk 1 (.slice ha es.length hcp) rfl (fun w' hw'=>by obtain⟨q1,q2,q3⟩:=hw';have q4:w'.cell? ⟨g,k*2+1,none⟩=some (.slice da 64 dcap):=(by simp[World.cell?,q3,hgc]);obtain⟨⟨h0,h1,h2⟩,_⟩:=tri q1;obtain⟨⟨u0,u1,u2⟩,_⟩:=tri q2;go_simp) HS.out ?_;go_simp;refine wTk 2 (za fr) rfl (fun w' hw'=>by obtain⟨q1,q2,q3⟩:=hw';have q4:w'.cell? ⟨g,k*2+1,none⟩=some (.slice da 64 dcap):=(by simp[World.cell?,q3,hgc]);obtain⟨⟨h0,h1,h2⟩,_⟩:=tri q1;obtain⟨⟨u0,u1,u2⟩,_⟩:=tri q2;go_simp) HS.out ?_
      go_simp;refine wTk 4 (.pointer (some ⟨T,1,none⟩)) rfl (fun w' hw'=>by obtain⟨q1,q2,q3⟩:=hw';have q4:w'.cell? ⟨g,k*2+1,none⟩=some (.slice da 64 dcap):=(by simp[World.cell?,q3,hgc]);obtain⟨⟨h0,h1,h2⟩,_⟩:=tri q1;obtain⟨⟨u0,u1,u2⟩,_⟩:=tri q2;go_simp) HS.out ?_;go_simp;refine wTk 5 (.slice (some (zd g)) n thc) rfl (fun w' hw'=>by obtain⟨q1,q2,q3⟩:=hw';have q4:w'.cell? ⟨g,k*2+1,none⟩=some (.slice da 64 dcap):=(by simp[World.cell?,q3,hgc]);obtain⟨⟨h0,h1,h2⟩,_⟩:=tri q1;obtain⟨⟨u0,u1,u2⟩,_⟩:=tri q2;go_simp) HS.out ?_
      go_simp;refine wTk 6 (za k) rfl (fun w' hw'=>by obtain⟨q1,q2,q3⟩:=hw';have q4:w'.cell? ⟨g,k*2+1,none⟩=some (.slice da 64 dcap):=(by simp[World.cell?,q3,hgc]);obtain⟨⟨h0,h1,h2⟩,_⟩:=tri q1;obtain⟨⟨u0,u1,u2⟩,_⟩:=tri q2;go_simp) HS.out ?_;go_simp;refine wTk 7 (.pointer (some ⟨g,k*2,none⟩)) rfl (fun w' hw'=>by obtain⟨q1,q2,q3⟩:=hw';have q4:w'.cell? ⟨g,k*2+1,none⟩=some (.slice da 64 dcap):=(by simp[World.cell?,q3,hgc]);obtain⟨⟨h0,h1,h2⟩,_⟩:=tri q1;obtain⟨⟨u0,u1,u2⟩,_⟩:=tri q2;go_simp) HS.out ?_
      go_simp;refine wTk 8 (.pointer (some ⟨g,k*2+1,none⟩)) rfl (fun w' hw'=>by obtain⟨q1,q2,q3⟩:=hw';have q4:w'.cell? ⟨g,k*2+1,none⟩=some (.slice da 64 dcap):=(by simp[World.cell?,q3,hgc]);obtain⟨⟨h0,h1,h2⟩,_⟩:=tri q1;obtain⟨⟨u0,u1,u2⟩,_⟩:=tri q2;go_simp) HS.out ?_;go_simp;refine wTk 9 (.slice da 64 dcap) rfl (fun w' hw'=>by obtain⟨q1,q2,q3⟩:=hw';have q4:w'.cell? ⟨g,k*2+1,none⟩=some (.slice da 64 dcap):=(by simp[World.cell?,q3,hgc]);obtain⟨⟨h0,h1,h2⟩,_⟩:=tri q1;obtain⟨⟨u0,u1,u2⟩,_⟩:=tri q2;go_simp) HS.out ?_
      go_simp;refine zq 3 rfl rfl (by kernel_rfl) ?_;have c01:Chg 0 0 X (X.alloc (.cells #[] 5)):=Chg.alloc (Chg.refl 0 0 X) _;have s01:=c01.size;have hTX:=(gLt HS.out.1);have HS1:Hid (_∧_∧_):=⟨(c01.block _ (by omega) (by omega)).trans HS.out.1,(c01.block _ (by omega) (by omega)).trans HS.out.2.1,(c01.block _ (by omega) (by omega)).trans HS.out.2.2⟩;have HO1:Hid (zi (X.alloc (.cells #[] 5)) X.heap.size 5 (.slice (some (zd X.heap.size)) 0 0) []∧zr (X.alloc (.cells #[] 5)) w3.heap.size X.heap.size .u8 (.slice da 64 dcap) ys):=⟨zi.bnil X _ (Nat.le_refl _),Hed.out.2.chg c01 (by omega)⟩
      have Hc01:Hid _:=c01;clear c01;go_simp;refine⟨HS1.out,?_⟩;generalize X.alloc (.cells #[] 5)=X1 at*;refine zq 10 rfl rfl (by kernel_rfl) ?_;refine UQ (.tmp 61) (.tmp 67) rfl X.heap.size (.slice (some (zd X.heap.size)) 0 0) [] rfl HO1.out.1 (by omega) w3.heap.size X.heap.size (.slice da 64 dcap) ys rfl HO1.out.2 Hfp.out.2.1 (by have:=Hfp.out.2.2;simp;omega) ?_;intro v2 X2 o2 gr2;have c12:=Chg.ofGrown gr2 (fun k hk hlt=>⟨(World.ownsRow.lt HO1.out.1 k hk).1,hlt⟩)
      have c02:Chg 0 0 X X2:=Hc01.out.step c12 (Or.inr (Or.inl (Nat.le_refl _)));rw[List.nil_append] at o2;have s02:=c02.size;have HS2:Hid (_∧_∧_):=⟨(c02.block _ (by omega) (by omega)).trans HS.out.1,(c02.block _ (by omega) (by omega)).trans HS.out.2.1,(c02.block _ (by omega) (by omega)).trans HS.out.2.2⟩;refine⟨fun _=>HS2.out,?_⟩;obtain⟨v2a,v2c,rfl⟩: ∃a c,v2= .slice a 64 c:=by
       obtain⟨a,c,e,_⟩:=(o2.view (by have:=HL.out;omega) (fun g hg=>(o2.lt g hg).2));rw[←HL.out] at e;exact⟨a,c,e⟩
      have Ho2:Hid _:=o2;have Hc02:Hid _:=c02;clear o2 c02 c12 gr2 HO1 HS1 Hc01;go_simp;refine zq 11 rfl rfl (by kernel_rfl) ?_;have hq1:=HS2.out.1;have hq2:=HS2.out.2.1;have hq3:=HS2.out.2.2;go_simp;clear hq1 hq2 hq3;refine zq 12 rfl rfl (by kernel_rfl) ?_;obtain⟨ic,hic,hcz0,hcz1,hcz2⟩:=info_parts Tryz.infoH;refine wp_buildSlice 32 61 1 #[(0,.tmp 69)] rfl #[za fr,.slice v2a 64 v2c] ic _ Tryz.underlying32 hic hcz0 (by rw[hcz1];decide) (by rw[hcz1];decide) (by rw[hcz1,Array.toList_map];refine Qo 2 _ ?_ [za fr,.slice v2a 64 v2c] rfl;simp) ?_
      have c7:Chg 0 0 X2 (X2.alloc (.cells #[za fr,.slice v2a 64 v2c] 61)):=Chg.alloc (Chg.refl 0 0 X2) _;have HS7:Hid (_∧_∧_):=⟨(c7.block _ (by omega) (by omega)).trans HS2.out.1,(c7.block _ (by omega) (by omega)).trans HS2.out.2.1,(c7.block _ (by omega) (by omega)).trans HS2.out.2.2⟩;refine⟨fun _=>HS7.out,?_⟩;go_simp;refine zq 13 rfl rfl (by kernel_rfl) ?_;have hrow2:=(Hed.out.1.1.1).row.chg Hc02.out (by omega)
      refine XZ ys (.tmp 59) (.tmp 70) rfl (T+1) (.slice ha es.length hcp) es rfl hrow2 (by omega) rfl (by have:=Hcn.out;omega) ⟨_,_,_,rfl⟩ ?_;intro g8 cp8 X8 o8 gr8;have hrl:t.revs.length≤128:=by have:=HX.out.p.few;omega
      obtain⟨hT8,hk8⟩:=qE.homes_app Hed.out.1.1.1 Hed.out.1.1.2 Hed.out.1.2.1 Hed.out.1.2.2 (by omega) (by have:=Hcn.out;omega) (by omega) Ho2.out ⟨Hfp.out.1,HL.out.symm⟩ Hc02.out (by omega) o8 gr8;have hS8:=hk8 _ _ _ (by decide) HS2.out.1;have s8:=gr8.size;have s7:=c7.size;have cg:=((Hc02.out.trans c7).widen (by omega) (by omega)).trans (Chg.ofGrown gr8 (fun k hk hlt=>⟨(World.ownsRow.lt (hrow2.chg c7 (by omega)) k hk).1,by omega⟩))
      have HS8:Hid (_∧_∧_):=⟨hS8,(cg.block _ (by omega) (by omega)).trans HS.out.2.1,(cg.block _ (by omega) (by omega)).trans HS.out.2.2⟩;obtain⟨⟨u0,u1,u2⟩,fu0,fu1,fu2⟩:=tri hS8;have cY:Chg (T+1) (T+2) X8 (X8.setCell ⟨T+1,1,none⟩ (.slice (some (zd g8)) (es.length+1) cp8)):=(Chg.refl _ _ X8).setCell (p:=⟨T+1,1,none⟩) (Or.inl (by simp)) _;have sY:=cY.size;have hp8:=HX.out.p.home hlt.1 hlt.2.2 hc.2 (ys:=ys) ⟨Hfp.out.1,HL.out.symm⟩ (by have:=Hcn.out;have:=Hel.out;have:=Hrn.out;omega)
      have HF:Hid (ShI lo tt sq wm (T+1) (X8.setCell ⟨T+1,1,none⟩ (.slice (some (zd g8)) (es.length+1) cp8)) (fr+1) ⟨t.seq,t.homes++ [(fr,ys)],t.revs⟩ (.slice (some (zd g8)) (es.length+1) cp8) (.slice ra rn rc)):=HX.out.next (cg.trans (cY.widen (by omega) (by omega))) (by omega) (js hS8 _) (hT8.keep (fun j cur T' _ hT hh=>(cY.block j (gLt hh) (by
       have:j≠T+1:=fun e=>by rw[e,hS8] at hh;cases hh;exact hT rfl
       omega)).trans hh)) hp8
      refine⟨fun _=>HS8.out,?_⟩;clear hT8 hk8 gr8 o8 c7 cY hp8 hrow2;have hS8t:=HS8.out.2.1;have hS8g:=HS8.out.2.2;go_simp;refine zq 14 rfl rfl (by kernel_rfl) ?_;go_simp;refine zq 15 rfl rfl (by kernel_rfl) ?_;go_simp;refine qi (by kernel_rfl) (NoPanic.normal ?_);clear u0 u1 u2 fu0 fu1 fu2 hS8 hS8t hS8g HS HS2 HS7 HS8 cg sY s8 s7;generalize X8.setCell ⟨T+1,1,none⟩ (.slice (some (zd g8)) (es.length+1) cp8)=Y at*
      have hwk:IntKind.i64.wrap ((k:Int)+1)=((k+1:Nat):Int):=by rw[IntKind.wrap_i64];omega
      have hwf:IntKind.i64.wrap (fr+1)=fr+1:=by have:=HX.out.p.lo';rw[IntKind.wrap_i64];omega
      clear HX Hed Ho2 Hc02;go_wp2;go_roundw
      case rel=>
       have hwr:wrap64 (fr+1+(k:Int) % 2)=fr+1+(k:Int) % 2:=by have:=HF.out.p.lo';unfold wrap64;omega
       exact⟨⟨_,k+1,_,_,_,rfl,rfl,⟨by omega,by rw[hwr];omega⟩,HF.out.up (by rw[hwr];omega)⟩⟩
      case measure=>simp[intOf];omega
     ·clear hbb hw' a0 a1 a2 b0 b1 b2 fb c1;have hwk:IntKind.i64.wrap ((k:Int)+1)=((k+1:Nat):Int):=by rw[IntKind.wrap_i64];omega
      go_wp2;go_roundw
      case rel=>exact⟨⟨fr,k+1,t,_,_,rfl,rfl,⟨by omega,hfr⟩,HI.out⟩⟩
      case measure=>simp[intOf];omega
   ·have hd:=decide_eq_false hc;clear a0 a1 a2;go_wp2;go_loopw [3,15] (fun x3 x15 wq=>Sh1 lo tt sq wm (T+1) m x3 x15 wq) (fun _ x15 _=>m-(intOf x15).toNat)
    case atStart=>exact⟨⟨fr,0,t,hv,rv,rfl,rfl,⟨by omega,hfr⟩,HI.out⟩⟩
    case round=>
     clear HI hc hd hfr hkn;obtain⟨fr,k,t,hv,rv,rfl,rfl,⟨hkn,hfr⟩,hI⟩:=hrel.ex;obtain⟨⟨a0,a1,a2⟩,_⟩:=tri (hI.there HM.out.2.1);have HI:Hid _:=hI;clear hI hrel;go_upto_region 11 with fail;go_cut [87] from 78 to 105 (fun x wx=>x= .bool (decide (k<m∧fr<tt))∧wx=wr)
     case first=>
      by_cases h1:k<m
      ·by_cases h2:fr<tt
       ·have e1:=decide_eq_true (by omega);have e2:=decide_eq_true h2;go_wp2;go_meet;exact⟨by rw[show decide (k<m∧fr<tt)=true from decide_eq_true (by omega)],rfl⟩
       ·have e1:=decide_eq_true (by omega);have e2:=decide_eq_false h2;go_wp2;go_meet;exact⟨by rw[show decide (k<m∧fr<tt)=false from decide_eq_false (by omega)],rfl⟩
      ·have e1:=decide_eq_false (by omega);go_wp2;go_meet;exact⟨by rw[show decide (k<m∧fr<tt)=false from decide_eq_false (by omega)],rfl⟩
     case rest=>
      obtain⟨rfl,hwc⟩:=hcut;obtain rfl:wr=wc:=hwc.symm;clear a0 a1 a2;obtain⟨es,o1,o2,o3,o4,o5,o6⟩:=HI.out.ow;obtain⟨ha,hn,hcp,rfl⟩:=o1.slice;obtain rfl:hn=es.length:=by
       rcases o1.row.2 with⟨e,e2⟩|⟨_,_,_,e,_⟩
       ·simp only[Value.slice.injEq] at e;omega
       ·simp only[Value.slice.injEq] at e;exact e.2.1
      obtain⟨ra,rc,rfl⟩:=o4.shape;obtain⟨rn,Hrn⟩: ∃rn,Hid (rn=t.revs.length):=⟨_,rfl⟩;rw[←Hrn.out] at HI o4;have Hes:Hid (((qj wr (T+1) (.slice ha es.length hcp) es∧es.map (fun e=>(e.1,e.2.2))=t.homes)∧(∀e∈es,e.2.2.length=64∧Byt e.2.2)∧zP wr (T+1) 2 (.slice ra rn rc) t.revs)∧es.length≤10000):=⟨⟨⟨o1,o2⟩,o3,o4⟩,o6⟩;have hel:es.length=t.homes.length:=by rw[←o2,List.length_map]
      have Hel:Hid _:=hel;obtain⟨cn,Hcn⟩: ∃cn,Hid (cn=es.length+rn):=⟨_,rfl⟩;have hcn:cn≤128:=by have:=Hcn.out;have:=HI.out.p.few;have:=Hrn.out;omega
      have hw':IntKind.i64.wrap ((es.length:Int)+(rn:Int))=(cn:Int):=by have:=Hcn.out;rw[IntKind.wrap_i64];omega
      clear o1 o2 o3 o4 o5 o6 hel;obtain⟨⟨b0,b1,b2⟩,fb0,fb1,fb2⟩:=tri HI.out.ob;generalize hbb:decide (k<m∧fr<tt)=bb
      cases bb
      ·clear hbb;by_cases h0:cn=0
       ·have e0:((cn:Int)==0)=true:=by simp;omega
        have hwt:IntKind.i64.wrap (tt-1)=tt-1:=by rw[IntKind.wrap_i64];omega
        obtain⟨hS8,hF8⟩:=HI.out.one hlt.1 hlt.2.1 hlt.2.2 (by have:=Hcn.out;have:=Hel.out;have:=Hrn.out;omega);obtain⟨⟨u0,u1,u2⟩,fu0,fu1,fu2⟩:=tri hS8;have HF:Hid _:=hF8;clear hS8 hF8 Hes h0;go_upto_region 18 with fail;clear u0 u1 u2 fu0 fu1 fu2 b0 b1 b2 fb0 fb1 fb2 HI;generalize (wr.alloc (.cells #[za (tt-1)] 2)).setCell ⟨T+1,2,none⟩ (.slice (some (zd wr.heap.size)) 1 1)=Y at*;obtain⟨⟨b0,b1,b2⟩,fb0,fb1,fb2⟩:=tri HF.out.ob
        have hzz:=HF.out.there HM.out.2.2.1;go_wp2_with (refine wpList_store_row rfl 35 (.tmp 10) (.tmp 118) rfl rfl w.heap.size rfl [za sq,.slice ha es.length hcp,.slice (some (zd wr.heap.size)) 1 1] [za 0,zc,zc] 35 rfl hzz rfl (by kernel_rfl) (by simp[Value.oneCell']) ?_;intro wf hbf hcf);have hl1:(loadVar 35 (zd w.heap.size)).run Tryz.prog wf= .ok (.agg (List.toArray [za sq,.slice ha es.length hcp,.slice (some (zd wr.heap.size)) 1 1])) wf:=run_loadVar_mid _ _ _ _ [za sq,.slice ha es.length hcp,.slice (some (zd wr.heap.size)) 1 1] _ (zj hbf) Tryz.underlying35 rfl (by kernel_rfl)
        refine bodyPost_ret (zu Tryz.results7 rfl hl1) rfl ?_;exact HF.out.fin HM.out.2.2.2 (by have:=(gLt HM.out.2.2.1);have:=HF.out.em;omega) hcf (by simp) hq
       ·have e0:((cn:Int)==0)=false:=by simp;omega
        have hc1:1≤t.homes.length+t.revs.length:=by have:=Hcn.out;have:=Hel.out;have:=Hrn.out;omega
        clear Hes;have hzz:=HI.out.there HM.out.2.2.1;go_wp2_with (refine wpList_store_row rfl 35 (.tmp 10) (.tmp 118) rfl rfl w.heap.size rfl [za sq,.slice ha es.length hcp,.slice ra rn rc] [za 0,zc,zc] 35 rfl hzz rfl (by kernel_rfl) (by simp[Value.oneCell']) ?_;intro wf hbf hcf);have hl1:(loadVar 35 (zd w.heap.size)).run Tryz.prog wf= .ok (.agg (List.toArray [za sq,.slice ha es.length hcp,.slice ra rn rc])) wf:=run_loadVar_mid _ _ _ _ [za sq,.slice ha es.length hcp,.slice ra rn rc] _ (zj hbf) Tryz.underlying35 rfl (by kernel_rfl)
        refine bodyPost_ret (zu Tryz.results7 rfl hl1) rfl ?_;exact HI.out.fin HM.out.2.2.2 (by have:=(gLt HM.out.2.2.1);have:=HI.out.em;omega) hcf hc1 hq
      ·obtain⟨hkm,hft⟩:=of_decide_eq_true hbb;clear hbb;have hwk:IntKind.i64.wrap ((k:Int)+1)=((k+1:Nat):Int):=by rw[IntKind.wrap_i64];omega
       have hwf:IntKind.i64.wrap (fr+1)=fr+1:=by have:=HI.out.p.lo';rw[IntKind.wrap_i64];omega
       by_cases h2:cn<128
       ·have e2:=decide_eq_true (by omega);have e3:(cn:Int)<128:=by omega
        obtain⟨hz1,hz2⟩:=HI.out.app hlt.1 hlt.2.2 hft (by have:=Hcn.out;have:=Hel.out;have:=Hrn.out;omega);have Hz1:Hid _:=hz1;have Hz2:Hid _:=hz2;have hrl:t.revs.length≤128:=by have:=HI.out.p.few;omega
        clear hz1 hz2;go_upto_region 15 with(at_builtin;refine wpList_plain rfl fun K hK=>?_;refine ZO (.tmp 99) (.tmp 101) rfl (T+1) (.slice ra rn rc) t.revs rfl Hz1.out.1 Hz1.out.2.2 0 (wr.heap.size+1) (.slice (some (zd wr.heap.size)) 1 1) [fr] rfl Hz1.out.2.1 (by simp) (by simp;omega) ?_;intro v' X8 o8 gr8;obtain⟨va,vc,rfl⟩:=o8.shape;obtain⟨hS8,hF8⟩:=Hz2.out X8 _ o8 gr8;obtain⟨⟨u0,u1,u2⟩,fu0,fu1,fu2⟩:=tri hS8;clear o8 gr8;refine hK _ _ ?_)
        rw[List.length_append,List.length_singleton] at hF8;have HF:Hid _:=hF8;clear u0 u1 u2 fu0 fu1 fu2 hS8 hF8 Hz1 Hz2 b0 b1 b2 fb0 fb1 fb2 HI Hes;generalize X8.setCell ⟨T+1,2,none⟩ (.slice va (t.revs.length+1) vc)=Y at*;go_wp2;go_roundw
        case rel=>exact⟨⟨_,k+1,_,_,_,rfl,rfl,⟨by omega,by omega⟩,HF.out⟩⟩
        case measure=>simp[intOf];omega
       ·have e2:=decide_eq_false (by omega);have e3: ¬(cn:Int)<128:=by omega
        go_wp2;go_roundw
        case rel=>exact⟨⟨fr,k+1,t,_,_,rfl,rfl,⟨by omega,hfr⟩,HI.out⟩⟩
        case measure=>simp[intOf];omega
theorem Xu {cur cs:List Int}{a:Nat}(h:a*64+cs.length≤cur.length):(splice cur (a*64) cs).length=cur.length:=by
 unfold splice;simp only[List.length_append,List.length_take,List.length_drop];omega
theorem abG {n b:Nat}(h:b*64+64≤n):blk (List.replicate n (0:Int)) b=List.replicate 64 0:=by
 unfold blk;rw[List.drop_replicate,List.take_replicate,Nat.min_eq_left (by omega)]
def ZY (sz:Nat):Dsk:=⟨ab7 (sz+156) sz 2,[]⟩
theorem ab8 {sz:Nat}(h:16≤sz∧sz≤79):VV ((sz:Int)+156) (sz:Int) 2=ZY sz:=by
 have hg:Jt ((sz+156:Nat):Int) (sz:Int) ((2:Nat):Int)=true:=by
  rw[N4 ⟨by omega,by omega,by omega,by omega,by omega,by omega⟩];apply decide_eq_true;unfold jr upN;omega
 have:=VW hg;exact this
theorem J0 {sz:Nat}(h:16≤sz∧sz≤79):jJ (ZY sz) (sz+156) sz (fun _=> .raw (List.replicate 64 0)) 0 1:=by
 have e1:upN (sz+156) 512=1:=by unfold upN;omega
 have e2:jr (sz+156) sz 2=sz+5:=by unfold jr upN;omega
 have hG:Z4 ((sz+156:Nat):Int) (sz:Int) ((2:Nat):Int):=⟨by omega,by omega,by omega,by omega,by omega,by omega⟩;have l1:(fsL ((sz+156:Nat):Int) (sz:Int) ((2:Nat):Int)).length=64:=N3 hG;have l2:(mkJ (sz:Int)).length=64:=N6 (by omega) (by omega);have l3:(Qy 2).length=64:=Kr (by omega);have l4:(q9 1 (sz+5) (sz+156)).length=64:=Kb (by omega) (by omega) (by omega);have l5:=V8;obtain⟨A0,hA0⟩: ∃A,A=List.replicate ((sz+156)*64) (0:Int):=⟨_,rfl⟩
 have n0:A0.length=(sz+156)*64:=by rw[hA0,List.length_replicate]
 obtain⟨A1,hA1⟩: ∃A,A=splice A0 (0*64) (fsL ((sz+156:Nat):Int) (sz:Int) ((2:Nat):Int)):=⟨_,rfl⟩;have n1:A1.length=(sz+156)*64:=by rw[hA1,Xu (by omega),n0]
 obtain⟨A2,hA2⟩: ∃A,A=splice A1 (1*64) (mkJ (sz:Int)):=⟨_,rfl⟩;have n2:A2.length=(sz+156)*64:=by rw[hA2,Xu (by omega),n1]
 obtain⟨A3,hA3⟩: ∃A,A=splice A2 ((2+sz)*64) (Qy 2):=⟨_,rfl⟩;have n3:A3.length=(sz+156)*64:=by rw[hA3,Xu (by omega),n2]
 obtain⟨A4,hA4⟩: ∃A,A=splice A3 ((3+sz)*64) (q9 1 (sz+5) (sz+156)):=⟨_,rfl⟩;have n4:A4.length=(sz+156)*64:=by rw[hA4,Xu (by omega),n3]
 have ed:(ZY sz).dur=splice A4 ((3+sz+1)*64) Yw:=by
  show Ei (sz+156) sz 2 (2+sz) (3+sz) (upN (sz+156) 512) (3+sz+upN (sz+156) 512) (jr (sz+156) sz 2)=_;rw[e1,e2,hA4,hA3,hA2,hA1,hA0];rfl
 have hb: ∀b,b≤sz+1→blk (ZY sz).dur b=blk A2 b:=by
  intro b hb;rw[ed,jU _ _ _ _ l5 (by omega),if_neg (by omega),hA4,jU _ _ _ _ l4 (by omega),if_neg (by omega),hA3,jU _ _ _ _ l3 (by omega),if_neg (by omega)]
 refine⟨?_,rfl,⟨by omega,by omega,by omega,by omega⟩,⟨⟨by omega,by omega⟩,by omega,by omega⟩,?_,fun i _=>⟨by simp,fun x hx=>?_,by decide⟩,fun i hi=>?_⟩
 ·rw[ed,Xu (by omega),n4];omega
 ·rw[hb 1 (by omega),hA2,jU _ _ _ _ l2 (by omega),if_pos rfl];rfl
 ·have:=List.eq_of_mem_replicate hx;omega
 ·rw[hb (2+i) (by omega),hA2,jU _ _ _ _ l2 (by omega),if_neg (by omega),hA1,jU _ _ _ _ l1 (by omega),if_neg (by omega),hA0];exact abG (by omega)
theorem aaP {sz:Nat}(h:16≤sz∧sz≤79):JW (ZY sz)=ZY sz:=by
 unfold JW;rw[if_pos (ZC (J0 h).valid)];rfl
theorem adN {sz:Nat}(h:16≤sz∧sz≤79):LI (ZY sz) sz (fun _=> .raw (List.replicate 64 0)) 0 1 1 0 1 []:=
 ⟨J0 h,⟨by omega,by omega⟩,by omega,fun _=>⟨rfl,rfl⟩,fun e=>absurd rfl e,by simp,by simp,fun i _ n c m e=>(by cases e),by omega,by omega⟩
theorem Kz (w:World)(sz:Nat)(h:16≤sz∧sz≤79):
  Calls Tryz.prog 6 #[za sz,za 150] w fun e w'=> ∃v,e= .returned v∧ZU w' w.heap.size w'.heap.size v (ZY sz)∧Chg 0 0 w w':=by
 obtain⟨z1,z2,z3⟩:=zN w (.cells #[zc,zc] 26) (.cells #[za ((sz:Int)+156),za sz,za 2] 57);have cA:Chg 0 0 w ((w.alloc (.cells #[zc,zc] 26)).alloc (.cells #[za ((sz:Int)+156),za sz,za 2] 57)):=(Chg.alloc (Chg.refl 0 0 w) _).alloc _;have hw1:IntKind.i64.wrap ((sz:Int)+6)=(sz:Int)+6:=by rw[IntKind.wrap_i64];omega
 have hw2:IntKind.i64.wrap ((sz:Int)+6+150)=(sz:Int)+156:=by rw[IntKind.wrap_i64];omega
 obtain⟨⟨g0,g1,g2⟩,_⟩:=tri z3;have Hm:=ab8 h;have HM:Hid (VV ((sz:Int)+156) (sz:Int) 2=ZY sz):=Hm;clear Hm;have HZ:Hid (((w.alloc (.cells #[zc,zc] 26)).alloc (.cells #[za ((sz:Int)+156),za sz,za 2] 57)).heap[w.heap.size]?=some (.cells #[zc,zc] 26 (0,0))):=z2;have HC:Hid (Chg 0 0 w ((w.alloc (.cells #[zc,zc] 26)).alloc (.cells #[za ((sz:Int)+156),za sz,za 2] 57))):=cA;clear z1 z2 z3 cA;go_enter Tryz.func6,Tryz.ntmps6
 go_wp2_with fail;generalize (w.alloc (.cells #[zc,zc] 26)).alloc (.cells #[za ((sz:Int)+156),za sz,za 2] 57)=w2 at*;refine(KX w2 ((sz:Int)+156) (sz:Int) 2).mono ?_;rintro e w3 ⟨v,rfl,hO,c3⟩;rw[HM.out] at hO;have hs2:=HC.out.size;have hs3:=c3.size;have hz2:=(gLt HZ.out);have hz3:=(c3.block _ hz2 (by omega)).trans HZ.out;obtain⟨a,l,c,a',l',c',rfl⟩:=hO.agg;have hL:=J0 h;have hfit:(ZY sz).Fits:=⟨by have:=hL.dur;omega,by rw[hL.pend];simp,by rw[hL.pend];simp⟩
 have hD:=hO.view hfit;go_wp2_with (refine wpList_store_row rfl 26 (.tmp 4) (.tmp 13) rfl rfl w.heap.size rfl [.slice a l c,.slice a' l' c'] [zc,zc] 26 rfl hz3 rfl (by kernel_rfl) (by simp[Value.oneCell']) ?_;intro wf hbf hcf);have hl1:(loadVar 26 (zd w.heap.size)).run Tryz.prog wf= .ok (.agg (List.toArray [.slice a l c,.slice a' l' c'])) wf:=run_loadVar_mid _ _ _ _ [.slice a l c,.slice a' l' c'] _ (zj hbf) Tryz.underlying26 rfl (by kernel_rfl)
 refine bodyPost_ret (zu Tryz.results6 rfl hl1) rfl ⟨_,rfl,?_,?_⟩
 ·exact(hD.chg hcf (by omega)).mono (by omega) (by have:=hcf.size;omega)
 ·exact(HC.out.trans c3).step hcf (Or.inr (Or.inl (Nat.le_refl _)))
end Go.Proofs.YtacjklochmelfaaGreatDoor
