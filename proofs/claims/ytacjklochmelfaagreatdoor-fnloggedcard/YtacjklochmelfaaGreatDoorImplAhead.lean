import Derived.Test.YtacjklochmelfaaGreatDoorImplPcs
import Derived.Test.YtacjklochmelfaaGreatDoorHeld
import Derived.Test.YtacjklochmelfaaGreatDoorValid
import Derived.Test.YtacjklochmelfaaGreatDoorTagOwn
import Derived.Test.YtacjklochmelfaaGreatDoorRowsE
import Derived.Test.YtacjklochmelfaaGreatDoorJReadD
namespace Go.Proofs.YtacjklochmelfaaGreatDoor
open Go.RowKit Go.Shelf
set_option maxRecDepth 100000
set_option maxHeartbeats 16000000
def jh (Q:Exit→Act→World→Prop):Exit→Act→World→Prop
 | .normal,a,w=>Q .normal a w
 |_,_,_=>False
theorem jh.imp {Q:Exit→Act→World→Prop}: ∀(e:Exit) (a:Act) (w:World),jh Q e a w→Q e a w:=fun e a w h=>by
 cases e<;>first|exact h|exact(h:False).elim
def jS (ops:Array Oper):Bool:=ops.all fun o=>match o.op with| .defer _=>false|_=>true
theorem qu {ops:Array Oper}(h:jS ops=true){i:Nat}{o:Oper}(hi:ops[i]?=some o): ∀c,o.op≠ .defer c:=by
 intro c hc;obtain⟨hlt,rfl⟩:=Array.getElem?_eq_some_iff.1 hi;have:=Array.all_eq_true.1 h i hlt;rw[hc] at this
 cases this
section
variable{P:Program} {n l:Nat} {ops:Array Oper} {Q:Exit→Act→World→Prop} {S:World→Prop}
theorem jH {o:Oper}{a:Act}{w:World}{K:Act→World→Prop}(hd: ∀c,o.op≠ .defer c)(h:o.wp P a w K Q):o.wpIn (Fence.wide.inRound l) n P a w K Q:=by
 unfold Oper.wp at h;refine⟨fun _ _=>trivial,?_⟩;rw[Fence.inRound_round,Oper.semAt_some l a.eval o hd];generalize (execOp a.eval o).run P w=r at h⊢
 cases r with
 |ok x w'=>
  cases x with
  |value v=>exact h
  |skip=>exact h
  |defer d=>exact h
  |enter f args=>exact⟨(fun h=>by cases h),callsIn_wide.2 h⟩
  |row row args=>exact⟨(fun h=>by cases h),fun c cs _=>let ⟨v,w'',r,s⟩:=h c cs;⟨v,w'',r,stepsIn_wide.2 s⟩⟩
  |_=>exact(h:False).elim
 |halt x w'=>cases x<;>first|exact h|exact(h:False).elim
end
section
variable{P:Program} {n l:Nat} {md:Region.Mode} {ops:Array Oper} {Q:Exit→Act→World→Prop} {S:World→Prop}
def qZ (l n:Nat) (P:Program) (md:Region.Mode) (ops:Array Oper) (Q:Exit→Act→World→Prop) (S:World→Prop):Nat→Array Bool→Act→World→Prop
 |0,listed,a,w=>Region.ready md ops listed= []∧Q .normal a w
 |fuel+1,listed,a,w=>(Region.ready md ops listed= []→Q .normal a w)∧
  ∀i∈Region.ready md ops listed,wpOpIn (Fence.wide.inRound l) n P ops Q i (fun a' w'=>S w'∧qZ l n P md ops Q S fuel (listed.setIfInBounds i true) a' w') a w
theorem X9: ∀(fuel:Nat) (listed:Array Bool) (a:Act) (w:World),qZ l n P md ops Q S fuel listed a w→wpAnyIn (Fence.wide.inRound l) n P md ops Q fuel listed a w
 |0,_,_,_,h=>h
 |fuel+1,_,_,_,h=>⟨h.1,fun i hi=>wpOpIn_mono (fun a' w' h'=>X9 fuel _ a' w' h'.2) (h.2 i hi)⟩
theorem YE {i:Nat}{o:Oper}{v:Value}{a:Act}(hi:ops[i]?=some o)(hd: ∀c,o.op≠ .defer c)(hy:YieldsIf P ops S o v a){K:Act→World→Prop}{w:World}(hS:S w)(h:K (a.put o.dst v) w):wpOpIn (Fence.wide.inRound l) n P ops Q i K a w:=by
 unfold wpOpIn;simp only[hi];rcases hy with⟨hw,hv⟩|⟨hw,rfl⟩
 ·rw[if_pos hw];refine⟨fun _ _=>trivial,?_⟩;rw[Fence.inRound_round,Oper.semAt_some l a.eval o hd,hv w hS];exact h
 ·rw[if_neg (by rw[hw];simp)];exact⟨fun _ _=>trivial,h⟩
theorem aaS {j:Nat}{oi oj:Oper}{v:Value}(hj:ops[j]?=some oj)(hd: ∀c,oj.op≠ .defer c)(hap:oi.apart ops oj=true)
  (hsi: ∀cs b,oi.op≠ .select cs b) (hsj: ∀cs b,oj.op≠ .select cs b)
  (hQ: ∀c a w,Q (.panic c) (a.put oi.dst v) w→Q (.panic c) a w) {K:Act→World→Prop} {a:Act} {w:World}
  (hy:YieldsIf P ops S oi v a) (h:wpOpIn (Fence.wide.inRound l) n P ops Q j K (a.put oi.dst v) w):
  wpOpIn (Fence.wide.inRound l) n P ops Q j (fun a' w'=>YieldsIf P ops S oi v a'∧K (a'.put oi.dst v) w') a w:=by
 obtain⟨h1,h2,h3⟩:=Oper.apart_spec hap
 have keep: ∀(a:Act),YieldsIf P ops S oi v a→ ∀u,YieldsIf P ops S oi v (a.put oj.dst u):=fun a hy u=>
  hy.of_same (execOp_put oi hsi a oj.dst u h3) (wanted_put oi a oj.dst u h3)
 have keepD: ∀d,YieldsIf P ops S oi v {a with defers:=d::a.defers}:=fun d=>hy.of_same rfl rfl;unfold wpOpIn at*;simp only[hj] at*;rw[wanted_put oj a oi.dst v h1] at h;split
 ·rename_i hw;simp only[hw,if_true] at h;unfold Oper.wpIn at*;refine⟨fun _ _=>trivial,?_⟩;have h:=h.2;rw[Fence.inRound_round,Oper.semAt_some l _ oj hd,execOp_put oj hsj a oi.dst v h1] at h;rw[Fence.inRound_round,Oper.semAt_some l _ oj hd];generalize (execOp a.eval oj).run P w=r at*
  cases r with
  |ok x w'=>
   cases x<;>simp only[Oper.uponIn] at h⊢
   case value u=>exact⟨keep a hy u,by rw[←Act.put_comm a v u h2];exact h⟩
   case skip=>exact⟨keep a hy _,by rw[←Act.put_comm a v undef h2];exact h⟩
   case defer d=>
    refine⟨keep _ (keepD d) _,?_⟩;rw[←Act.put_comm _ v undef h2,←Act.put_defers];exact h
   case enter f args=>
    refine⟨h.1,CallsIn.mono h.2 fun e w'' he=>?_⟩
    cases e with
    |returned u=>exact⟨keep a hy u,by rw[←Act.put_comm a v u h2];exact he⟩
    |panicked c=>exact hQ _ _ _ he
    |outgrown=>exact he
   case row row args=>exact⟨h.1,RowsIn.mono h.2 fun u w'' he=>⟨keep a hy u,by rw[←Act.put_comm a v u h2];exact he⟩⟩
   case round l f tmps assign body=>
    refine⟨h.1,RoundIn.mono h.2 fun e w'' he=>?_⟩
    cases e with
    |returned u=>exact⟨keep a hy u,by rw[←Act.put_comm a v u h2];exact he⟩
    |panicked c=>exact hQ _ _ _ he
    |outgrown=>exact he
  |halt x w'=>
   cases x<;>simp only[Oper.uponIn] at h⊢
   case panic u=>exact hQ _ _ _ h
 ·rename_i hw;simp only[hw] at h;exact⟨fun _ _=>trivial,keep a hy _,by rw[←Act.put_comm a v undef h2];exact h.2⟩
theorem Ym {i:Nat}{oi:Oper}{v:Value}(hi:ops[i]?=some oi)(hn:jS ops=true)(hsel:Region.noSelect ops=true)
  (hQ: ∀c a w,Q (.panic c) (a.put oi.dst v) w→Q (.panic c) a w): ∀(fuel:Nat) (listed:Array Bool) (a:Act) (w:World),
   (∀j oj,ops[j]?=some oj→j≠i→listed.getD j true=false→(∀e∈oj.after,Region.binds md e=true→e.on≠i)→oi.apart ops oj=true)→
   i∈Region.ready md ops listed→YieldsIf P ops S oi v a→S w→
   qZ l n P md ops Q S fuel (listed.setIfInBounds i true) (a.put oi.dst v) w→qZ l n P md ops Q S (fuel+1) listed a w
 |0,listed,a,w,_,hr,hy,hS,H=>by
  refine⟨fun h=>absurd hr (by rw[h];simp),fun j hj=>?_⟩
  rcases Nat.decEq j i with hji|hji
  ·exact absurd (ready_mono hj hji) (by rw[H.1];simp)
  ·subst hji;exact YE hi (qu hn hi) hy hS ⟨hS,H⟩
 |fuel+1,listed,a,w,hfree,hr,hy,hS,H=>by
  refine⟨fun h=>absurd hr (by rw[h];simp),fun j hj=>?_⟩
  rcases Nat.decEq j i with hji|hji
  ·obtain⟨hjun,oj,hoj,hall⟩:=mem_ready.1 hj
   have hi0:=(mem_ready.1 hr).1
   have hnot: ∀e∈oj.after,Region.binds md e=true→e.on≠i:=by
    intro e he hb heq;have h1:=hall e he hb;rw[heq] at h1;simp only[Array.getD_eq_getD_getElem?] at h1 hi0
    cases hx:listed[i]? with
    |none=>rw[hx] at h1;simp at h1
    |some b=>rw[hx] at h1 hi0;simp at h1 hi0;rw[h1] at hi0;cases hi0
   have h2:=aaS hoj (qu hn hoj) (hfree j oj hoj hji hjun hnot) (fun cs b=>Region.noSelect_spec hsel i oi cs b hi) (fun cs b=>Region.noSelect_spec hsel j oj cs b hoj) hQ hy (H.2 j (ready_mono hj hji))
   have hri:=ready_mono hr (Ne.symm hji)
   refine wpOpIn_mono (fun a' w' h3=>?_) h2
   obtain⟨hy',hS',H'⟩:=h3
   rw[Array.setIfInBounds_comm _ _ (Ne.symm hji)] at H'
   refine⟨hS',Ym hi hn hsel hQ fuel (listed.setIfInBounds j true) a' w' ?_ hri hy' hS' H'⟩
   intro k ok hk hki hun hno
   refine hfree k ok hk hki ?_ hno
   by_cases hjk:j=k
   ·subst hjk;exact hjun
   ·rw[getD_set_ne true hjk] at hun;exact hun
  ·subst hji;exact YE hi (qu hn hi) hy hS ⟨hS,H⟩
theorem qR (i:Nat){oi:Oper}(v:Value){fuel:Nat}{listed:Array Bool}{a:Act}{w:World}(hi:ops[i]?=some oi)(hn:jS ops=true)
  (hs:Region.noSelect ops=true) (hf:Region.free md ops listed i=true) (hr:(Region.ready md ops listed).contains i=true)
  (hQ: ∀c a w,Q (.panic c) (a.put oi.dst v) w→Q (.panic c) a w) (hy:YieldsIf P ops S oi v a) (hS:S w)
  (h:qZ l n P md ops Q S fuel (listed.setIfInBounds i true) (a.put oi.dst v) w):qZ l n P md ops Q S (fuel+1) listed a w:=
 Ym hi hn hs hQ fuel listed a w (Region.free_spec hi hf) (by simpa using hr) hy hS h
theorem rTk (i:Nat){oi:Oper}(v:Value){fuel:Nat}{listed:Array Bool}{a:Act}{w:World}(hi:ops[i]?=some oi)(hy: ∀w,S w→(execOp a.eval oi).run P w= .ok (.value v) w)(hS:S w)
  (h:qZ l n P md ops Q S fuel (listed.setIfInBounds i true) (a.put oi.dst v) w) (hn:jS ops=true:=by kernel_rfl) (hs:Region.noSelect ops=true:=by kernel_rfl) (hf:Region.free md ops listed i=true:=by kernel_rfl) (hr:(Region.ready md ops listed).contains i=true:=by kernel_rfl) (hQ: ∀c a w,Q (.panic c) (a.put oi.dst v) w→Q (.panic c) a w:=by exact fun _ _ _ h=>h) (hg:Region.wanted oi (yielded ops a.tmps)=true:=by kernel_rfl):qZ l n P md ops Q S (fuel+1) listed a w:=
 qR i v hi hn hs hf hr hQ (.inl ⟨hg,hy⟩) hS h
theorem zL (i:Nat){o:Oper}{fuel:Nat}{listed:Array Bool}{a:Act}{w:World}(hi:ops[i]?=some o)(hn:jS ops=true)(hw:o.guard=none)(hr:Region.ready md ops listed= [i])
  (h:o.wp P a w (fun a' w'=>S w'∧qZ l n P md ops Q S fuel (listed.setIfInBounds i true) a' w') Q):qZ l n P md ops Q S (fuel+1) listed a w:=by
 refine⟨fun h0=>(by rw[hr] at h0;cases h0),fun j hj=>?_⟩;rw[hr] at hj;obtain rfl:=List.mem_singleton.1 hj;unfold wpOpIn;simp only[hi];rw[if_pos (by simp[Region.wanted,hw])];exact jH (qu hn hi) h
theorem Eb (i:Nat){o:Oper}{fuel:Nat}{listed:Array Bool}{a:Act}{w:World}{l':Nat}{fn:FuncId}{tmps:Array Value}{assign body:Code}{R:Ending→World→Prop}(hi:ops[i]?=some o)(hn:jS ops=true)(hw:o.guard=none)(hr:Region.ready md ops listed= [i])
  (hrun:(execOp a.eval o).run P w= .ok (.round l' fn tmps assign body) w) (hR:RoundIn Fence.wide 0 P l' fn tmps assign body w R)
  (h: ∀e w',R e w'→ ∃v,e= .returned v∧S w'∧qZ l n P md ops Q S fuel (listed.setIfInBounds i true) (a.put o.dst v) w'):qZ l n P md ops Q S (fuel+1) listed a w:=by
 refine⟨fun h0=>(by rw[hr] at h0;cases h0),fun j hj=>?_⟩;rw[hr] at hj;obtain rfl:=List.mem_singleton.1 hj;unfold wpOpIn;simp only[hi];rw[if_pos (by simp[Region.wanted,hw])];refine⟨fun _ _=>trivial,?_⟩;rw[Fence.inRound_round,Oper.semAt_some l a.eval o (qu hn hi),hrun];refine⟨(fun h=>by cases h),(XQ hR l).mono ?_⟩;intro e w' hr;obtain⟨v,rfl,hk⟩:=h e w' hr;exact hk
theorem qD {listed:Array Bool}{a:Act}{w:World}(hr:Region.ready md ops listed= [])(h:Q .normal a w):qZ l n P md ops Q S 0 listed a w:=⟨hr,h⟩
theorem Zb (S:World→Prop){id:Nat}{a:Act}{w:World}(hm:P.follows .mixedOrders=true)
  (h:qZ l n P .any ops (jh Q) S ops.size (Array.replicate ops.size false) a w.drew):(Code.region id ops true).wpIn (Fence.wide.inRound l) n P Q a w:=
 wpIn_mono (wpIn_region_any hm (X9 _ _ _ _ h)) jh.imp
end
attribute [local go_sem] Oper.semAt_some
theorem jh.mk {Q:Exit→Act→World→Prop}{a:Act}{w:World}(h:Q .normal a w):jh Q .normal a w:=h
def abS (bs:List (List Int)) (x:Fin bs.length):Array Value:= #[.agg ((bs.getD x.val []).map (Value.int .u8)).toArray]
def KA (Bt lo hi:Nat):Nat→Prop:=(fun k=>k=Bt∨(lo≤k∧k<hi)∨k=0)
theorem aaG {bs:List (List Int)}(h: ∀b∈bs,b.length=64){k j:Nat}{v:Value}(hk:k<bs.length)(hj:((bs.getD k []).map (Value.int .u8))[j]?=some v):(bs.flatten.map (Value.int .u8))[k*64+j]?=some v:=by
 induction bs generalizing k with
 |nil=>simp at hk
 |cons b r ih=>
  have hb:=h b (by simp)
  cases k with
  |zero=>
   have hj':(b.map (Value.int .u8))[j]?=some v:=by simpa using hj
   have hjl:j<b.length:=by have:=(List.getElem?_eq_some_iff.1 hj').1;simpa using this
   rw[List.flatten_cons,List.map_append,Nat.zero_mul,Nat.zero_add,List.getElem?_append_left (by simpa using hjl)];exact hj'
  |succ k=>
   rw[List.flatten_cons,List.map_append,List.getElem?_append_right (by rw[List.length_map,hb];omega),List.length_map,hb,show(k+1)*64+j-64=k*64+j by omega];exact ih (fun x hx=>h x (by simp[hx])) (by simpa using hk) (by simpa using hj)
def up1 {q:Int} {hs:List Wr} {rs:List Int} (x:Fin (pcN rs.length 26)):Fin (BL q hs rs).length:=⟨x.val,by rw[ES];have:=x.isLt;omega⟩
def upJ {q:Int} {hs:List Wr} {rs:List Int} (x:Fin (pcN hs.length 17)) (j:Fin (pcE hs.length 17 x.val-17*x.val+1)):Fin (BL q hs rs).length:=
 ⟨pcN rs.length 26+18*x.val+j.val,by rw[ES];exact adJ x.isLt (by have:=j.isLt;omega)⟩
def up2 {q:Int} {hs:List Wr} {rs:List Int} (x:Fin (pcN hs.length 17)):List (Fin (BL q hs rs).length):=(List.finRange (pcE hs.length 17 x.val-17*x.val+1)).map (upJ (q:=q) (rs:=rs) x)
theorem UO {q:Int}{hs:List Wr}{rs:List Int}(pre:List (Fin (pcN rs.length 26))):(pre.map (up1 (q:=q) (hs:=hs))).map Fin.val=pre.map Fin.val:=by
 rw[List.map_map];rfl
theorem aap {q:Int}{hs:List Wr}{rs:List Int}(x:Fin (pcN hs.length 17)):(up2 (q:=q) (rs:=rs) x).map Fin.val=plc (pcN rs.length 26) hs.length x.val:=by
 unfold up2 plc;rw[List.map_map];apply List.ext_getElem
 ·simp
 ·intro i h1 h2;simp[upJ]
theorem acG {q:Int}{hs:List Wr}{rs:List Int}(x:Fin (pcN hs.length 17)){k:Nat}(h:k<pcE hs.length 17 x.val-17*x.val+1):(up2 (q:=q) (rs:=rs) x).take (k+1)=(up2 x).take k++ [upJ x ⟨k,h⟩]:=by
 have e:(up2 (q:=q) (rs:=rs) x)[k]?=some (upJ x ⟨k,h⟩):=by
  unfold up2;rw[List.getElem?_map,List.getElem?_eq_getElem (by simpa using h)];simp
 rw[List.take_add_one,e];rfl
theorem acQ {q:Int}{hs:List Wr}{rs:List Int}(pre:List (Fin (pcN hs.length 17))):(pre.flatMap (up2 (q:=q) (rs:=rs))).length≤18*pre.length:=by
 induction pre with
 |nil=>simp
 |cons x r ih=>
  have:(up2 (q:=q) (rs:=rs) x).length≤18:=by unfold up2;rw[List.length_map,List.length_finRange];have:=Nm (L:=hs.length) (m:=17) (x:=x.val);omega
  rw[List.flatMap_cons,List.length_append,List.length_cons];omega
theorem U9 {q:Int}{hs:List Wr}{rs:List Int}(pre:List (Fin (pcN hs.length 17))):(pre.flatMap (up2 (q:=q) (rs:=rs))).map Fin.val=(pre.map Fin.val).flatMap (plc (pcN rs.length 26) hs.length):=by
 induction pre with
 |nil=>rfl
 |cons x r ih=>rw[List.flatMap_cons,List.map_append,aap,ih,List.map_cons,List.flatMap_cons]
theorem qT {V V':World}{l:Nat}(c:Chg l l V V'):V.grownBy V' none:=⟨c.os,c.tape,c.output,c.size,fun k hk _=>c.block k hk (by omega)⟩
def ahI (W:World) (l Bt lo hi:Nat) (ao:Option Addr) (cap:Nat) {q:Int} {hs:List Wr} {rs:List Int} (J:List (Fin (BL q hs rs).length)→World→Prop) (pre:List (Fin (pcN rs.length 26))) (V:World):Prop:=
 J (pre.map up1) V∧V.heap[W.heap.size]?=some (.cells #[.func (.yield l) #[] #[]] 187 (0,0))∧qd (KA Bt lo hi) W V∧(V.heap[W.heap.size+1]?=some (.cells #[.slice ao rs.length cap] 33 (0,0))∧V.heap[W.heap.size+1+1]?=some (.cells #[za 26] 3 (0,0)))
def ahX {q:Int} {hs:List Wr} {rs:List Int} (Jx:List (Fin (BL q hs rs).length)→World→Prop) (c:Code) (pre:List (Fin (pcN rs.length 26))) (V:World):Prop:=c= .ret∧Jx (pre.map up1) V
def ad2 (W V1:World) (l Bt lo hi D:Nat) (po:Option Addr) (pcap:Nat) {q:Int} {hs:List Wr} {rs:List Int} (zs:List (Fin (BL q hs rs).length)) (J:List (Fin (BL q hs rs).length)→World→Prop) (pre:List (Fin (pcN hs.length 17))) (V:World):Prop:=
 J (zs++pre.flatMap up2) V∧V.heap[W.heap.size]?=some (.cells #[.func (.yield l) #[] #[]] 187 (0,0))∧qd (KA Bt lo hi) W V∧V.heap[V1.heap.size]?=some (.cells #[.slice po hs.length pcap] 32 (0,0))∧V.heap[V1.heap.size+1]?=some (.cells #[za 17] 3 (0,0))∧V.heap[D]?=some (.deferred (some []))
def ad3 (D:Nat) {q:Int} {hs:List Wr} {rs:List Int} (zs:List (Fin (BL q hs rs).length)) (Jx:List (Fin (BL q hs rs).length)→World→Prop) (c:Code) (pre:List (Fin (pcN hs.length 17))) (V:World):Prop:=
 c= .ret∧(∃pre' x k,pre=pre'++ [x]∧k≤pcE hs.length 17 x.val-17*x.val+1∧Jx (zs++pre'.flatMap up2++(up2 x).take k) V)∧V.heap[D]?=some (.deferred (some []))
theorem aav (Bt lo hi:Nat)(q:Int)(hs:List Wr)(rs:List Int)(hv rv:Value)(w:World)(hok:OkT q hs rs)(hn:hs.length+rs.length≤128)(hM:Mag w)(hBt:w.heap[Bt]?=some (.cells #[za q,hv,rv] 35 (0,0)))
  (h1:qF w lo hi hv hs) (h2:zr w lo hi .i64 rv rs) (hhi:hi≤w.heap.size):
  aau Tryz.prog 94 #[.pointer (some (zd Bt))] (abS (BL q hs rs)) (KpT (KA Bt lo hi))
   (fun zs=>zs.map Fin.val=List.range (BL q hs rs).length) (fun zs=>zs.map Fin.val=List.range zs.length) (pcN rs.length 26+18*pcN hs.length 17) w:=fun l J Jx W hW hJ hJx hY h0=>by
 have hBtl:Bt<w.heap.size:=(gLt hBt)
 have hMl:=hM.lt
 have hszW:=hW.size
 have hKA: ∀k,KA Bt lo hi k→k<W.heap.size:=fun k hk=>by unfold KA at hk;omega
 have HBt:Hid (∀V,qd (KA Bt lo hi) W V→V.heap[Bt]?=some (.cells #[za q,hv,rv] 35 (0,0))):=fun V h=>(h Bt (Or.inl rfl)).trans ((hW.block Bt hBtl).trans hBt)
 have HP:Hid (∀V,qd (KA Bt lo hi) W V→qF V lo hi hv hs):=fun V h=>h1.keep (fun b hb1 hb2=>(h b (Or.inr (Or.inl ⟨hb1,hb2⟩))).trans (hW.block b (by omega)))
 have HR:Hid (∀V,qd (KA Bt lo hi) W V→zr V lo hi .i64 rv rs):=fun V h=>h2.keep (fun b hb1 hb2=>(h b (Or.inr (Or.inl ⟨hb1,hb2⟩))).trans (hW.block b (by omega)))
 have HM:Hid (∀V,qd (KA Bt lo hi) W V→Mag V):=fun V h=>by
  have hb:=(h 0 (Or.inr (Or.inr rfl))).trans (hW.block _ hMl)
  exact⟨(World.cell?_of_block (a:=(zd 0)) hb).trans hM.m0,(World.cell?_of_block (a:=⟨0,1,none⟩) hb).trans hM.m1,(World.cell?_of_block (a:=⟨0,2,none⟩) hb).trans hM.m2,(World.cell?_of_block (a:=⟨0,3,none⟩) hb).trans hM.m3⟩
 have K0:qd (KA Bt lo hi) W W:=fun _ _=>rfl
 obtain⟨po,pcap,rfl⟩:=h1.slice
 obtain⟨ao,cap,rfl⟩:=h2.slice
 have hBW:=HBt.out W K0
 obtain⟨⟨t0,t1,t2⟩,_⟩:=tri hBW
 clear hM hBt h1 h2 hMl hBtl
 have cA:Chg 0 0 W (W.alloc (.cells #[.func (.yield l) #[] #[]] 187)):=Chg.alloc (Chg.refl 0 0 W) _
 have zY:=zh W (.cells #[.func (.yield l) #[] #[]] 187)
 have sA:(W.alloc (.cells #[.func (.yield l) #[] #[]] 187)).heap.size=W.heap.size+1:=by simp
 have d2:=cA.cell t2 (by have:=zF t2;omega)
 refine callsIn_of_wp_marks Tryz.func94 rfl trivial ?_ rfl
 simp only[Tryz.ntmps94,List.size_toArray,List.length_cons,List.length_nil,Nat.reduceAdd,Nat.reduceSub,Array.replicate_succ,Array.replicate_zero,List.push_toArray,List.append_toArray,List.nil_append,List.cons_append]
 gi_wp2
 refine⟨trivial,rfl,(callsIn_wide.2 (Vv _ _ _ _ _)).mono ?_⟩
 rintro e w1 ⟨rfl,rfl⟩
 clear d2
 generalize W.alloc (.cells #[.func (.yield l) #[] #[]] 187)=wA at*
 obtain⟨y1,y2,y3⟩:=zN wA (.cells #[.slice ao rs.length cap] 33) (.cells #[za 26] 3)
 have cB:Chg 0 0 wA ((wA.alloc (.cells #[.slice ao rs.length cap] 33)).alloc (.cells #[za 26] 3)):=(Chg.alloc (Chg.refl 0 0 wA) _).alloc _
 have zY':=(cB.block _ (by omega) (by omega)).trans zY
 have cAB:=cA.trans cB
 rw[sA] at y1 y2 y3⊢
 generalize (wA.alloc (.cells #[.slice ao rs.length cap] 33)).alloc (.cells #[za 26] 3)=wB at*
 clear zY cA cB sA
 gi_wp2
 obtain⟨b,off,hao⟩: ∃b off,0<rs.length→ao=some ⟨b,off,none⟩:=by
  obtain⟨ao',cap',e,_,_,h⟩:=HR.out W K0
  cases e
  rcases h with h|⟨b,off,h,_⟩
  ·exact⟨0,0,fun hp=>by rw[h] at hp;simp at hp⟩
  ·exact⟨b,off,fun _=>h⟩
 have hrc:rs.length≤cap:=by
  obtain⟨ao',cap',e,_,⟨h,_⟩,_⟩:=HR.out W K0
  cases e
  exact h
 refine QE (n:=0) (gf:=119) (lb:= #[.pointer (some (zd (W.heap.size+1))),.pointer (some ⟨W.heap.size+1+1,0,none⟩)]) rfl (enters_of Tryz.func119 (by kernel_rfl) rfl)
  (En (W.heap.size+1) (W.heap.size+1+1) b off cap rs.length ao wB (by omega) hrc hao (Boxed.cell y2) (Boxed.cell y3)) (fun h=>h) (Below.refl _ _) (fun _=>rfl) qd.trans (fun V o _ _ k hk=>World.putObj_heap_other (by omega))
  (ahI W l Bt lo hi ao cap J) (ahX Jx)
  ?hI ?hIx ?h0 (fun x a' V=>a'= {tmps:= #[.func (.yield l) #[] #[],.pointer (some (zd Bt)),.pointer (some (zd W.heap.size)),.slice (some ⟨b,off+26*x.val,none⟩) (pcE rs.length 26 x.val-26*x.val) (cap-26*x.val),undef,undef,undef,.pointer (some ⟨Bt,2,none⟩),.slice ao rs.length cap,.func (.func 119) #[] #[.pointer (some (zd (W.heap.size+1))),.pointer (some ⟨W.heap.size+1+1,0,none⟩)],.slice (some ⟨b,off+26*x.val,none⟩) (pcE rs.length 26 x.val-26*x.val) (cap-26*x.val),undef,undef,undef,undef,undef,undef,undef,undef,undef,undef,undef,undef,undef,undef,undef,undef,undef,undef,undef,undef,undef,undef,undef,undef,undef,undef,undef],defers:= []})
  (fun x a' _ _ _ _ hs _ _=>hs) ?assign ?body ?done ?stop
 case hI=>
  exact fun s A C row hs' hg hr=>by
   obtain⟨h2,h3,h5,h6,h7⟩:=hs';have hne: ∀k,k<W.heap.size+3→some k≠row:=fun k hk e=>by have:=(hr _ e.symm).1;omega
   refine⟨hJ _ A C row h2 hg (fun r e=>⟨by have:=(hr r e).1;omega,(hr r e).2⟩),(hg.block _ (gLt h3) (hne _ (by omega))).trans h3,?_,(hg.block _ (gLt h6) (hne _ (by omega))).trans h6,(hg.block _ (gLt h7) (hne _ (by omega))).trans h7⟩;intro k hk;have hkl:=hKA k hk;exact(hg.block k (by have:=(gLt h3);omega) (hne _ (by omega))).trans (h5 k hk)
 case hIx=>
  exact fun c s A C row hs' hg hr=>by
   obtain⟨h1,h2⟩:=hs';exact⟨h1,hJx _ A C row h2 hg (fun r e=>⟨by have:=(hr r e).1;omega,(hr r e).2⟩)⟩
 case h0=>
  intro V hV hsz;refine⟨h0 V ((cAB.below (Or.inl (Nat.le_refl _))).trans (hV.mono (by omega))),(hV.block _ (by omega)).trans zY',?_,(hV.block _ (by omega)).trans y2,(hV.block _ (by omega)).trans y3⟩;intro k hk;have hkl:=hKA k hk;exact(hV.block k (by omega)).trans (cAB.block k hkl (by omega))
 case assign=>
  rintro l' pre x V K' hMV hrc hi' hK;simp only[VR];gi_wp2;exact hK _ _ (jX.refl _ _) (fun _ _=>rfl) hi' rfl
 case body=>
  rintro l' pre x a' V hMV ⟨r0,hrc⟩ ⟨hJz,e1,e3,e6,e7⟩ rfl hlen;have hmx:Tryz.prog.follows .mixedOrders=true:=by kernel_rfl
  have hx0:=JH (m:=26) (by omega) x.isLt;have hxe:pcE rs.length 26 x.val-26*x.val≤26:=Nm;have hxp:1≤pcE rs.length 26 x.val-26*x.val:=by unfold pcE;omega
  have hpl:=N8 26 x.val rs;have hBL:=aat q hs rs x.isLt;obtain⟨ps,hps⟩: ∃ps,ps=(rs.drop (26*x.val)).take 26:=⟨_,rfl⟩;rw[←hps] at hpl hBL;obtain⟨N,hN⟩: ∃N,N=pcE rs.length 26 x.val-26*x.val:=⟨_,rfl⟩;rw[←hN] at hxe hxp hpl⊢;obtain rfl:=hao (by omega);have HCell:Hid (∀V',qd (KA Bt lo hi) W V'→ ∀i,i<ps.length→V'.cell? ⟨b,off+26*x.val+i,none⟩=some (za (ps.getD i 0))):=fun V' hk i hi0=>by
   obtain⟨ao',cap',e,_,_,h⟩:=HR.out V' hk
   cases e
   rcases h with h|⟨b',off',h,_,_,h3⟩
   ·have hl0:rs.length=0:=by rw[h];rfl
    omega
   ·cases h
    have hil:26*x.val+i<rs.length:=by
     rw[hps,List.length_take,List.length_drop] at hi0;omega
    have e:ps.getD i 0=rs.getD (26*x.val+i) 0:=by
     rw[hps,List.length_take,List.length_drop] at hi0;rw[hps];simp only[List.getD_eq_getElem?_getD,List.getElem?_take,List.getElem?_drop];rw[if_pos (by omega)]
    rw[e,Nat.add_assoc];exact h3 _ hil
  have HIn:Hid (∀y∈ps,0≤y∧y<2048):=fun y hy=>hok.rev.bound (Nat.le_refl _) y (by rw[hps] at hy;exact List.mem_of_mem_drop (List.mem_of_mem_take hy));have q0:=hok.q0;have q1:=hok.q1;have HpL:Hid _:=hpl;have HBL:Hid _:=hBL;have S0:V.drew.heap[W.heap.size]?=some (.cells #[.func (.yield l) #[] #[]] 187 (0,0)):=e1;have cd:Chg 0 0 V V.drew:=Chg.drew (Chg.refl 0 0 V);have kd:qd (KA Bt lo hi) W V.drew:=e3
  have HS:Hid (_∧_):=⟨S0,(tri (HBt.out _ kd)).1.1⟩;have hlt0:=(gLt S0);have hsV:V.drew.heap.size=V.heap.size:=rfl;clear hps hpl hBL hN S0;gi_wp2;refine Zb (fun w':World=>w'.heap[W.heap.size]?=some (.cells #[.func (.yield l) #[] #[]] 187 (0,0))∧w'.cell? (zd Bt)=some (za q)) hmx ?_;generalize V.drew=X at*;refine rTk 0 (.func (.yield l) #[] #[]) rfl (fun w' hw'=>by have q1:=Boxed.cell hw'.1;go_simp) HS.out ?_
  go_simp;refine rTk 1 (.pointer (some (zd Bt))) rfl (fun w' hw'=>by go_simp) HS.out ?_;go_simp;refine rTk 2 (za q) rfl (fun w' hw'=>by have q1:=hw'.2;go_simp) HS.out ?_;go_simp;refine rTk 3 (.slice (some ⟨b,off+26*x.val,none⟩) N (cap-26*x.val)) rfl (fun w' hw'=>by go_simp) HS.out ?_;go_simp;refine rTk 4 (.agg #[za q,.slice (some ⟨b,off+26*x.val,none⟩) N (cap-26*x.val)]) rfl (fun w' hw'=>by go_simp) HS.out ?_
  go_simp;refine zL 5 rfl (by kernel_rfl) rfl (by kernel_rfl) ?_;refine zl 96 #[.agg #[za q,.slice (some ⟨b,off+26*x.val,none⟩) N (cap-26*x.val)]] (by first|kernel_rfl|go_simp) (KM X q b (off+26*x.val) N (cap-26*x.val) (by omega) (HM.out X kd)) ?_;rintro e X2 ⟨rfl,c2⟩;have k2:qd (KA Bt lo hi) W X2:=fun k hk=>(c2.block k (by have:=hKA k hk;omega) (by omega)).trans (kd k hk);have HS2:Hid (_∧_):=⟨(c2.block _ (by omega) (by omega)).trans HS.out.1,c2.cell HS.out.2 (by omega)⟩
  refine⟨_,rfl,HS2.out,?_⟩;go_simp;have hE:=Q0 X2 (N:Int) q ps b (off+26*x.val) (cap-26*x.val) (by omega) (by omega) (pn2 (by omega) (by omega)) (pn4 (by omega) (by omega)) (by rw[HpL.out];omega) HIn.out (HCell.out X2 k2);rw[HpL.out] at hE;rw[show qc (zm 3 (N:Int) q++z8 ps)=(BL q hs rs).getD x.val [] from by rw[HBL.out];unfold Qh;rw[HpL.out]] at hE;refine zL 6 rfl (by kernel_rfl) rfl (by kernel_rfl) ?_
  refine zl 97 #[.agg #[zb 106,zb 108,zb 111,zb 103,za 3,za N,za q,.slice (some ⟨b,off+26*x.val,none⟩) N (cap-26*x.val)]] (by first|kernel_rfl|go_simp) hE ?_;rintro e X3 ⟨rfl,c3⟩;have k3:qd (KA Bt lo hi) W X3:=fun k hk=>(c3.block k (by have:=hKA k hk;have:=c2.size;omega) (by omega)).trans (k2 k hk);have HS3:Hid (_∧_):=⟨(c3.block _ (by have:=c2.size;omega) (by omega)).trans HS2.out.1,c3.cell HS2.out.2 (by omega)⟩
  refine⟨_,rfl,HS3.out,?_⟩;have c13:Chg 0 0 V X3:=cd.trans (c2.trans c3);obtain⟨fn,tmps,assign,body,hy,hR⟩:=hY (pre.map up1) (up1 x) X3 (by have:=c13.size;omega) (hJ _ V X3 none hJz (qT c13) (fun r e=>by cases e)) (by rw[List.length_map];omega);simp only[abS,up1] at hy;generalize ((BL q hs rs).getD x.val []).map (Value.int .u8)=cs at*;clear hE c2 c3 HS HS2;go_simp;refine Eb 7 rfl (by kernel_rfl) rfl (by kernel_rfl) (by go_simp) hR ?_
  rintro e V3 ⟨⟨m1,m2⟩,hres⟩;have f1:=(m2.2.1 _ _ _ _ adp HS3.out.1).trans HS3.out.1;have f3:qd (KA Bt lo hi) W V3:=k3.trans m2.1;have HS4:Hid ((fun w':World=>w'.heap[W.heap.size]?=some (.cells #[.func (.yield l) #[] #[]] 187 (0,0))∧w'.cell? (zd Bt)=some (za q)) V3):=⟨f1,(tri (HBt.out V3 f3)).1.1⟩;have kV:KpT (KA Bt lo hi) W.heap.size V V3:=(KpT.chg0 c13 (fun k hk=>by have:=hKA k hk;omega)).trans m2
  have k20:jX wB.heap.size V V3:=⟨by have:=c13.size;omega,kV.2.2 _ _ (by omega) hrc.df rfl,kV.2.2 _ _ (by omega) hrc.lp rfl⟩;rw[y1] at k20;have k21:qd (fun k=>k=W.heap.size+1∨k=W.heap.size+1+1) V V3:=fun k hk=>by
   rcases hk with rfl|rfl
   ·exact kV.2.1 _ _ _ _ ad1 e6
   ·exact kV.2.1 _ _ _ _ acF e7
  rcases hres with⟨rfl,hJ3⟩|⟨rfl,hJ3⟩
  ·refine⟨_,rfl,HS4.out,?_⟩;go_simp;refine rTk 8 (.bool false) rfl (fun w' hw'=>by go_simp) HS4.out ?_;go_simp;refine qD (by kernel_rfl) ?_;refine jh.mk ?_;gi_wp2;exact⟨⟨k20,k21⟩,by rw[List.map_append];exact hJ3,f1,f3,(k21 _ (Or.inl rfl)).trans e6,(k21 _ (Or.inr rfl)).trans e7⟩
  ·refine⟨_,rfl,HS4.out,?_⟩;go_simp;refine rTk 8 (.bool true) rfl (fun w' hw'=>by go_simp) HS4.out ?_;go_simp;refine qD (by kernel_rfl) ?_;refine jh.mk ?_;gi_wp2;exact⟨⟨k20,k21⟩,rfl,by rw[List.map_append];exact hJ3⟩
 case stop=>
  rintro D c pre V hD hSp ⟨rfl,hx⟩ hK;gi_wp2;refine⟨by simp,.inl ⟨_,_,rfl,run_takeDeferred hK,?_⟩⟩;refine⟨_,results_none rfl _ _ _,⟨_,rfl⟩,.inr ⟨_,by rw[UO,hSp,List.length_map],?_⟩⟩;exact hJx.putObj _ hx (by omega) hK rfl
 case done=>
  rintro D xs V1 hD hS ⟨hJz,e1,e3,_,_⟩ hK;have hDl:=(gLt hK);have hV1:W.heap.size+3≤V1.heap.size:=by omega
  obtain⟨⟨_,t1',_⟩,_⟩:=tri (HBt.out V1 e3);obtain⟨b2,off2,hpo⟩: ∃b off,0<hs.length→po=some ⟨b,off,none⟩:=by
   obtain⟨ao',cap',e,_,_,h⟩:=HP.out W K0
   cases e
   rcases h with h|⟨b,off,h,_⟩
   ·exact⟨0,0,fun hp=>by rw[h] at hp;simp at hp⟩
   ·exact⟨b,off,fun _=>h⟩
  have hpc:hs.length≤pcap:=by
   obtain⟨ao',cap',e,_,h,_⟩:=HP.out W K0
   cases e
   exact h
  clear y2 y3 zY' cAB hao hrc;gi_wp2;refine⟨trivial,rfl,(callsIn_wide.2 (Vu _ _ _ _ _)).mono ?_⟩;rintro e w1 ⟨rfl,rfl⟩;obtain⟨y1',y2,y3⟩:=zN V1 (.cells #[.slice po hs.length pcap] 32) (.cells #[za 17] 3);have cC:Chg 0 0 V1 ((V1.alloc (.cells #[.slice po hs.length pcap] 32)).alloc (.cells #[za 17] 3)):=(Chg.alloc (Chg.refl 0 0 V1) _).alloc _;generalize (V1.alloc (.cells #[.slice po hs.length pcap] 32)).alloc (.cells #[za 17] 3)=wC at*
  gi_wp2;refine QE (n:=0) (gf:=120) (lb:= #[.pointer (some (zd V1.heap.size)),.pointer (some (zd (V1.heap.size+1)))]) rfl (enters_of Tryz.func120 (by kernel_rfl) rfl)
   (Em V1.heap.size (V1.heap.size+1) b2 off2 pcap hs.length po wC (by omega) hpc hpo (Boxed.cell y2) (Boxed.cell y3)) (fun h=>h) (Below.refl _ _) (fun _=>rfl) qd.trans (fun V o _ _ k hk=>World.putObj_heap_other (by omega))
   (ad2 W V1 l Bt lo hi D po pcap (xs.map up1) J) (ad3 D (xs.map up1) Jx)
   ?hI ?hIx ?h0 (fun x a' V=>a'= {tmps:= #[.func (.yield l) #[] #[],.pointer (some (zd Bt)),.pointer (some (zd W.heap.size)),undef,.slice (some ⟨b2,off2+17*x.val*2,none⟩) (pcE hs.length 17 x.val-17*x.val) (pcap-17*x.val),undef,undef,.pointer (some ⟨Bt,2,none⟩),.slice ao rs.length cap,.func (.func 119) #[] #[.pointer (some (zd (W.heap.size+1))),.pointer (some ⟨W.heap.size+1+1,0,none⟩)],undef,undef,undef,undef,undef,undef,undef,undef,undef,undef,.pointer (some ⟨Bt,1,none⟩),.slice po hs.length pcap,.func (.func 120) #[] #[.pointer (some (zd V1.heap.size)),.pointer (some (zd (V1.heap.size+1)))],.slice (some ⟨b2,off2+17*x.val*2,none⟩) (pcE hs.length 17 x.val-17*x.val) (pcap-17*x.val),undef,undef,undef,undef,undef,undef,undef,undef,undef,undef,undef,undef,undef,undef],defers:= []})
   (fun x a' _ _ _ _ hs _ _=>hs) ?assign ?body ?done ?stop
  case hI=>
   exact fun s A C row hs' hg hr=>by
    obtain⟨h2,h3,h5,h6,h7,h8⟩:=hs';have hne: ∀k,k<V1.heap.size+2→some k≠row:=fun k hk e=>by have:=(hr _ e.symm).1;omega
    refine⟨hJ _ A C row h2 hg (fun r e=>⟨by have:=(hr r e).1;omega,(hr r e).2⟩),(hg.block _ (gLt h3) (hne _ (by omega))).trans h3,?_,(hg.block _ (gLt h6) (hne _ (by omega))).trans h6,(hg.block _ (gLt h7) (hne _ (by omega))).trans h7,(hg.block _ (gLt h8) (hne _ (by omega))).trans h8⟩;intro k hk;have hkl:=hKA k hk;exact(hg.block k (by have:=(gLt h3);omega) (hne _ (by omega))).trans (h5 k hk)
  case hIx=>
   exact fun c s A C row hs' hg hr=>by
    obtain⟨h1,⟨pre',x,k,h2,h3,h4⟩,h8⟩:=hs';have hne: ∀k,k<V1.heap.size+2→some k≠row:=fun k hk e=>by have:=(hr _ e.symm).1;omega
    exact⟨h1,⟨pre',x,k,h2,h3,hJx _ A C row h4 hg (fun r e=>⟨by have:=(hr r e).1;omega,(hr r e).2⟩)⟩,(hg.block _ (gLt h8) (hne _ (by omega))).trans h8⟩
  case h0=>
   intro V hV hsz;refine⟨?_,(hV.block _ (by omega)).trans ((cC.block _ (by omega) (by omega)).trans e1),?_,(hV.block _ (by omega)).trans y2,(hV.block _ (by omega)).trans y3,(hV.block _ (by omega)).trans ((cC.block _ (by omega) (by omega)).trans hK)⟩
   ·rw[List.flatMap_nil,List.append_nil];have c2:Chg 0 0 V1 V:=cC.trans (Chg.ofBelow hV 0 0);exact hJ _ V1 V none hJz (qT c2) (fun r e=>by cases e)
   ·intro k hk;have hkl:=hKA k hk;exact(hV.block k (by omega)).trans ((cC.block k (by omega) (by omega)).trans (e3 k hk))
  case assign=>
   rintro l' pre x V K' hMV hrc hi' hK;simp only[VR];gi_wp2;exact hK _ _ (jX.refl _ _) (fun _ _=>rfl) hi' rfl
  case body=>
   rintro l' pre x a' V hMV ⟨r0,hrc⟩ ⟨hJz2,f1,f3,f6,f7,f8⟩ rfl hlen;have hx0:=JH (m:=17) (by omega) x.isLt;have hxe:pcE hs.length 17 x.val-17*x.val≤17:=Nm;have hxp:1≤pcE hs.length 17 x.val-17*x.val:=by unfold pcE;omega
   have hpl:=N8 17 x.val hs;obtain⟨ps,hps⟩: ∃ps,ps=(hs.drop (17*x.val)).take 17:=⟨_,rfl⟩;have HBLx:Hid (∀j,j≤pcE hs.length 17 x.val-17*x.val→(BL q hs rs).getD (pcN rs.length 26+18*x.val+j) []=(zG q ps).getD j []):=fun j hj=>by rw[hps];exact ER q hs rs x.isLt hj
   rw[←hps] at hpl;have hokp:OkT q ps []:=by
    have h:=(OkT.dropH (rs:= []) ⟨hok.q0,hok.q1,zK.zero [],hok.home,hok.data,hok.byt⟩ (17*x.val)).takeH 17;rw[hps];exact h
   obtain rfl:=hpo (by omega);have HCell:Hid (∀V',qd (KA Bt lo hi) W V'→ ∀i,i<ps.length→ ∃dv,V'.cell? ⟨b2,off2+17*x.val*2+i*2,none⟩=some (za (ps.getD i (0,[])).1)∧V'.cell? ⟨b2,off2+17*x.val*2+i*2+1,none⟩=some dv∧zr V' lo hi .u8 dv (ps.getD i (0,[])).2):=fun V' hk i hi0=>by
    obtain⟨ao',cap',e,_,_,h⟩:=HP.out V' hk
    cases e
    rcases h with h|⟨b',off',h,_,_,h3⟩
    ·have hl0:hs.length=0:=by rw[h];rfl
     omega
    ·cases h
     have hil:17*x.val+i<hs.length:=by
      rw[hps,List.length_take,List.length_drop] at hi0;omega
     have e:ps.getD i (0,[])=hs.getD (17*x.val+i) (0,[]):=by
      rw[hps,List.length_take,List.length_drop] at hi0;rw[hps];simp only[List.getD_eq_getElem?_getD,List.getElem?_take,List.getElem?_drop];rw[if_pos (by omega)]
     rw[e,show off2+17*x.val*2+i*2=off2+(17*x.val+i)*2 by omega];exact h3 _ hil
   have HpL:Hid (ps.length=pcE hs.length 17 x.val-17*x.val):=hpl;have hdes:=YG V (lo:=lo) (hi:=hi) q ps b2 (off2+17*x.val*2) (pcap-17*x.val) hokp (by rw[hpl];omega) (by rw[hpl];omega) (HM.out V f3) (HCell.out V f3);rw[hpl] at hdes;have t0':=(tri (HBt.out V f3)).1.1;have hd64:=VQ hokp (by rw[hpl];omega);have HL18:Hid ((zG q ps).length=pcE hs.length 17 x.val-17*x.val+1):=by show _=_;unfold zG;rw[List.length_cons,List.length_map,hpl]
   clear hps hpl hokp t1';obtain⟨N,hN⟩: ∃N,N=pcE hs.length 17 x.val-17*x.val:=⟨_,rfl⟩;have HN:Hid _:=hN;rw[←hN] at hxe hxp hdes HL18⊢;clear hN;gi_wp2;refine⟨trivial,rfl,(callsIn_wide.2 hdes).mono ?_⟩;rintro e V0 ⟨g,rfl,hg0,hga,c0⟩;have hgl:=hga.lt;have kV0:KpT (KA Bt lo hi) W.heap.size V V0:=KpT.chg0 c0 (fun k hk=>by have:=hKA k hk;omega);have HGa:Hid _:=hga;have hJ0':=hJ _ V V0 none hJz2 (qT c0) (fun r e=>by cases e)
   have s0:=c0.size;have hNb:((1+N:Nat):Int)=1+(N:Int):=by omega
   clear hdes t0' hga;gi_wp2;gi_loopw [29] (fun y wr=> ∃k:Nat,k≤1+N∧y=za k∧J (xs.map up1++pre.flatMap up2++(up2 x).take k) wr∧V0.heap.size≤wr.heap.size∧KpT (KA Bt lo hi) W.heap.size V0 wr) (fun y _=>1+N-(intOf y).toNat)
   case atStart=>exact⟨0,Nat.zero_le _,rfl,by rw[List.take_zero,List.append_nil];exact hJ0',Nat.le_refl _,fun _ _=>rfl,fun _ _ _ _ _ _=>rfl,fun _ _ _ _ _=>rfl⟩
   case round=>
    obtain⟨k,hk,rfl,hJk,hsz,hkp⟩:=hrel;have kVr:=kV0.trans hkp;have g1:wr.heap[W.heap.size]?=some (.cells #[.func (.yield l) #[] #[]] 187 (0,0)):=(kVr.2.1 _ _ _ _ adp f1).trans f1;have hga:qq wr g 72 ((zG q ps).flatten.map (Value.int .u8)):=(hkp.2.1 _ _ _ _ ado HGa.out).trans HGa.out;by_cases hlt:k<1+N
    ·have hki:(k:Int)<((1+N:Nat):Int):=by omega
     have hki':(k:Int)<1+(N:Int):=by omega
     have hkx:k<pcE hs.length 17 x.val-17*x.val+1:=by have:=HN.out;omega
     have htk:=acG (q:=q) (rs:=rs) x hkx;obtain⟨cs,hcs⟩: ∃cs,cs=((zG q ps).getD k []).map (Value.int .u8):=⟨_,rfl⟩;have hkd:k<(zG q ps).length:=by rw[HL18.out];omega
     have hgk:(zG q ps).getD k []=(zG q ps)[k]:=by simp[List.getD_eq_getElem?_getD,hkd]
     have hcl:cs.length=64:=by rw[hcs,List.length_map,hgk];exact hd64 _ (List.getElem_mem hkd)
     have HRg:Hid (wr.rangeAt g (k*64) cs):=by
      intro j v hj;refine hga.cell _ ?_;rw[hcs] at hj;exact aaG hd64 hkd hj
     have hics:(Tryz.prog.info? 72).map (·.size)=some cs.length:=by rw[hcl];kernel_rfl
     have HcV:Hid (∀v∈cs,v.oneCell'=true):=by show∀v∈cs,v.oneCell'=true;rw[hcs];exact ints_oneCell _ _
     have HEnc:Hid (abS (BL q hs rs) (upJ (q:=q) (rs:=rs) x ⟨k,hkx⟩)= #[.agg cs.toArray]):=by
      show _=_;unfold abS upJ;simp only;rw[HBLx.out k (by have:=HN.out;omega),hcs]
     have Hcl:Hid _:=hcl;have u44:=Tryz.underlying72;have Hdl:Hid (∀W':World,Chg 0 0 wr W'→J (xs.map up1++pre.flatMap up2++(up2 x).take k) W'):=fun W' c=>hJ _ wr W' none hJk (qT c) (fun r e=>by cases e);have HG1:Hid (∀W':World,Chg 0 0 wr W'→W'.heap[W.heap.size]?=some (.cells #[.func (.yield l) #[] #[]] 187 (0,0))):=fun W' c=>(c.block _ (gLt g1) (by omega)).trans g1;clear hcs hcl hgk hga hkd hJk;have hlen':(xs.map up1++pre.flatMap up2++(up2 (q:=q) (rs:=rs) x).take k).length<pcN rs.length 26+18*pcN hs.length 17:=by
      have h1:((up2 (q:=q) (rs:=rs) x).take k).length≤k:=by rw[List.length_take];exact Nat.min_le_left _ _
      have h2:=acQ (q:=q) (rs:=rs) pre;have h3:xs.length=pcN rs.length 26:=by have:=congrArg List.length hS;simpa using this
      rw[List.length_append,List.length_append,List.length_map];omega
     have HYk:Hid (∀wg:World,Chg 0 0 wr wg→wg.rangeAt wr.heap.size 0 cs→(wg.cell? (zd W.heap.size)=some (.func (.yield l) #[] #[])∧wg.rangeAt wr.heap.size 0 cs∧KpT (KA Bt lo hi) W.heap.size V0 wg∧V0.heap.size≤wg.heap.size)∧Yields Tryz.prog l #[.agg cs.toArray] wg fun e V'=>(wg.heap.size≤V'.heap.size∧KpT (KA Bt lo hi) W.heap.size wg V')∧((e= .returned (.bool true)∧J (xs.map up1++pre.flatMap up2++(up2 x).take k++ [upJ x ⟨k,hkx⟩]) V')∨(e= .returned (.bool false)∧Jx (xs.map up1++pre.flatMap up2++(up2 x).take k++ [upJ x ⟨k,hkx⟩]) V'))):=fun wg cg hr=>by
      have h:=hY (xs.map up1++pre.flatMap up2++(up2 x).take k) (upJ x ⟨k,hkx⟩) wg (by have:=cg.size;omega) (Hdl.out wg cg) hlen';rw[HEnc.out] at h;exact⟨⟨Boxed.cell (HG1.out wg cg),hr,hkp.trans (KpT.chg0 cg (fun k hk=>by have:=hKA k hk;omega)),by have:=cg.size;omega⟩,h⟩
     clear hY Hdl HG1 HEnc hlen' hkp hJ0' kVr g1;gi_wp2_with (first
      |(refine wpListIn_plain rfl fun K hK=>?_;refine jH (fun _ h=>by cases h) ?_;refine wp_load_mid 72 (.tmp 31) rfl g (k*64) rfl cs _ HRg.out u44 rfl hics ?_;refine hK _ _ ?_)
      |(refine wpListIn_plain rfl fun K hK=>?_;refine jH (fun _ h=>by cases h) ?_;refine wp_store_row 72 (.tmp 6) (.tmp 32) rfl rfl wr.heap.size rfl cs _ 72 rfl (zh wr _) (by rw[Hcl.out];rfl) hics HcV.out ?_;intro wg hbg hcg;obtain⟨⟨g2c,hrb,kg,sg⟩,fn,tmps,assign,body,hy,hR⟩:=HYk.out wg ((Chg.alloc (Chg.refl 0 0 wr) _).step hcg (Or.inr (Or.inl (Nat.le_refl _)))) (zj hbg);have HRb:Hid (wg.rangeAt wr.heap.size 0 cs):=hrb;clear hbg hcg hrb HRg HYk;refine hK _ _ ?_)
      |(refine wpListIn_plain rfl fun K hK=>?_;refine jH (fun _ h=>by cases h) ?_;refine wp_load_mid 72 (.tmp 6) rfl wr.heap.size 0 rfl cs _ HRb.out u44 rfl hics ?_;refine hK _ _ ?_))
     refine⟨rfl,(XQ hR l').mono ?_⟩;rintro e V3 ⟨⟨s3,k3⟩,(⟨rfl,hJ3⟩|⟨rfl,hJ3⟩)⟩
     ·have HJ4:Hid (J (xs.map up1++pre.flatMap up2++(up2 x).take (k+1)) V3):=by
       show J _ _;rw[htk,←List.append_assoc];exact hJ3
      have k4:=kg.trans k3;have s4:V0.heap.size≤V3.heap.size:=by omega
      clear hy hR HRb hJ3 g2c kg k3 htk;gi_wp2;go_roundw
      case rel=>exact⟨k+1,by omega,by go_num,HJ4.out,s4,k4⟩
      case measure=>simp[intOf];omega
     ·have HJ4:Hid (Jx (xs.map up1++pre.flatMap up2++(up2 x).take (k+1)) V3):=by
       show Jx _ _;rw[htk,←List.append_assoc];exact hJ3
      have k4:=kV0.trans (kg.trans k3);have s4:V.heap.size≤V3.heap.size:=by omega
      have k20:jX wC.heap.size V V3:=⟨s4,k4.2.2 _ _ (by omega) hrc.df rfl,k4.2.2 _ _ (by omega) hrc.lp rfl⟩;have k21:qd (fun k=>k=V1.heap.size∨k=V1.heap.size+1) V V3:=fun k hk=>by
       rcases hk with rfl|rfl
       ·exact k4.2.1 _ _ _ _ adq f6
       ·exact k4.2.1 _ _ _ _ acF f7
      have f8':=(k4.2.2 D _ (by omega) f8 rfl).trans f8;clear hy hR HRb hJ3 g2c kg k3 htk;gi_wp2;exact⟨⟨k20,k21⟩,rfl,⟨pre,x,k+1,rfl,by have:=HN.out;omega,HJ4.out⟩,f8'⟩
    ·obtain rfl:k=1+N:=by omega
     have hge: ¬(((1+N:Nat):Int)<((1+N:Nat):Int)):=by omega
     have hge': ¬(1+(N:Int)<1+(N:Int)):=by omega
     have k4:=kV0.trans hkp;have s4:V.heap.size≤wr.heap.size:=by omega
     have k20:jX wC.heap.size V wr:=⟨s4,k4.2.2 _ _ (by omega) hrc.df rfl,k4.2.2 _ _ (by omega) hrc.lp rfl⟩;have k21:qd (fun k=>k=V1.heap.size∨k=V1.heap.size+1) V wr:=fun k hk=>by
      rcases hk with rfl|rfl
      ·exact k4.2.1 _ _ _ _ adq f6
      ·exact k4.2.1 _ _ _ _ acF f7
     have f8':=(k4.2.2 D _ (by omega) f8 rfl).trans f8;have f3':qd (KA Bt lo hi) W wr:=f3.trans k4.1;have hJe:J (xs.map up1++(pre++ [x]).flatMap up2) wr:=by
      rw[List.flatMap_append,List.flatMap_cons,List.flatMap_nil,List.append_nil,←List.append_assoc];rw[List.take_of_length_le (by unfold up2;rw[List.length_map,List.length_finRange];have:=HN.out;omega)] at hJk;exact hJk
     have k22:=k21;rw[y1'] at k20;clear hJk hkp hJ0' hga;gi_wp2;exact⟨⟨k20,k21⟩,hJe,g1,f3',(k22 _ (Or.inl rfl)).trans f6,(k22 _ (Or.inr rfl)).trans f7,f8'⟩
  case done=>
   rintro D2 xs2 V2 hD2 hS2 ⟨hJ2,_,_,_,_,f8⟩ hK2;have hD2l:=(gLt hK2);have hne:D≠D2:=by omega
   have hz:(xs.map up1++xs2.flatMap (up2 (q:=q) (rs:=rs))).map Fin.val=List.range (BL q hs rs).length:=by
    rw[List.map_append,UO,hS,U9,ES,←ac2,hS2]
   gi_wp2;have hK':(V2.putObj D2 (.deferred none)).heap[D]?=some (.deferred (some [])):=(World.putObj_heap_other hne).trans f8;refine⟨by simp,.inl ⟨_,_,rfl,run_takeDeferred hK2,?_⟩⟩;refine⟨by simp,.inl ⟨_,_,rfl,run_takeDeferred hK',?_⟩⟩;refine⟨_,results_none rfl _ _ _,⟨_,rfl⟩,.inl ⟨_,hz,?_⟩⟩;exact hJ.putObj _ (hJ.putObj _ hJ2 (by omega) hK2 rfl) (by omega) hK' rfl
  case stop=>
   rintro D2 c pre V2 hD2 hSp ⟨rfl,⟨pre',x,k,rfl,hk,hJ2⟩,f8⟩ hK2;have hD2l:=(gLt hK2);have hne:D≠D2:=by omega
   have hpre:pre'.map Fin.val=List.range x.val:=by
    rw[List.map_append,List.length_append] at hSp;have hl:(pre'.map Fin.val).length=pre'.length:=List.length_map _;have h2:pre'.map Fin.val++ [x.val]=List.range (pre'.length+1):=hSp;rw[List.range_succ] at h2;obtain⟨h3,h4⟩:=List.append_inj h2 (by simp);have:x.val=pre'.length:=by simpa using h4
    rw[h3,this]
   have hz:(xs.map up1++pre'.flatMap (up2 (q:=q) (rs:=rs))++(up2 x).take k).map Fin.val=List.range (xs.map (up1 (q:=q) (hs:=hs))++pre'.flatMap (up2 (q:=q) (rs:=rs))++(up2 x).take k).length:=by
    have e:(xs.map up1++pre'.flatMap (up2 (q:=q) (rs:=rs))++(up2 x).take k).map Fin.val=List.range (pcN rs.length 26+18*x.val+k):=by
     rw[List.map_append,List.map_append,UO,hS,U9,hpre,List.map_take,aap,acf x.isLt hk]
    have hl:=congrArg List.length e;rw[List.length_map,List.length_range] at hl;rw[e,hl]
   gi_wp2;have hK':(V2.putObj D2 (.deferred none)).heap[D]?=some (.deferred (some [])):=(World.putObj_heap_other hne).trans f8;refine⟨by simp,.inl ⟨_,_,rfl,run_takeDeferred hK2,?_⟩⟩;refine⟨by simp,.inl ⟨_,_,rfl,run_takeDeferred hK',?_⟩⟩;refine⟨_,results_none rfl _ _ _,⟨_,rfl⟩,.inr ⟨_,hz,?_⟩⟩;exact hJx.putObj _ (hJx.putObj _ hJ2 (by omega) hK2 rfl) (by omega) hK' rfl
end Go.Proofs.YtacjklochmelfaaGreatDoor
