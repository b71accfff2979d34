import Derived.Test.YthdeofoleiiibaaGreatDoorJTake
namespace Go.Proofs.YthdeofoleiiibaaGreatDoor
open Go.RowKit Go.Shelf
set_option maxRecDepth 100000
set_option maxHeartbeats 16000000
variable {a:Act}{w:World}{listed:Array Bool}{o oi:Oper}{fuel i j:Nat}{v:Value}{K:Act→World→Prop}{q:Int}{rs:List Int}
abbrev oq:= @Oper.semAt_some
abbrev r8:= @Fence.inRound_round
def jV (Q:Exit→Act→World→Prop):Exit→Act→World→Prop
 | .normal,a,w=>Q .normal a w
 |_,_,_=>False
theorem jV.imp {Q:Exit→Act→World→Prop}: ∀(e:Exit) (a:Act) (w:World),jV Q e a w→Q e a w:=fun e a w h=>by
 cases e<;>first|exact h|exact(h:False).elim
def Zg (ops:Array Oper):Bool:=ops.all fun o=>match o.op with| .defer _=>false|_=>true
theorem qT {ops:Array Oper}(h:Zg ops=true)(hi:ops[i]?=some o): ∀c,o.op≠ .defer c:=by
 intro c b;obtain⟨a,rfl⟩:=rF.1 hi;have:=Array.all_eq_true.1 h i a;rw[b] at this
 cases this
section
variable{P:Program} {n l:Nat} {ops:Array Oper} {Q:Exit→Act→World→Prop} {S:World→Prop}
theorem Zs (b: ∀c,o.op≠ .defer c)(h:o.wp P a w K Q):o.wpIn (Fence.wide.inRound l) n P a w K Q:=by
 unfold Oper.wp at h;refine⟨fun _ _=>trivial,?_⟩;rw[r8,oq l a.eval o b];generalize (execOp a.eval o).run P w=r at h⊢
 cases r with
 |ok x w'=>
  cases x with
  |value v=>exact h
  |skip=>exact h
  |defer d=>exact h
  |enter f args=>exact⟨(fun h=>by cases h),callsIn_wide.2 h⟩
  |row row args=>exact⟨(fun h=>by cases h),fun c cs _=>let ⟨v,w'',r,s⟩:=h c cs;⟨v,w'',r,stepsIn_wide.2 s⟩⟩
  |_=>exact(h:False).elim
 |halt x w'=>cases x<;>first|exact h|exact(h:False).elim
end
abbrev oT:= @Act.put_comm
abbrev pE:= @ready_mono
abbrev rJ:= @Region.noSelect_spec
section
variable{P:Program} {n l:Nat} {md:Region.Mode} {ops:Array Oper} {Q:Exit→Act→World→Prop} {S:World→Prop}
def qV (l n:Nat) (P:Program) (md:Region.Mode) (ops:Array Oper) (Q:Exit→Act→World→Prop) (S:World→Prop):Nat→Array Bool→Act→World→Prop
 |0,listed,a,w=>Region.ready md ops listed= []∧Q .normal a w
 |fuel+1,listed,a,w=>(Region.ready md ops listed= []→Q .normal a w)∧
  ∀i∈Region.ready md ops listed,wpOpIn (Fence.wide.inRound l) n P ops Q i (fun a' w'=>S w'∧qV l n P md ops Q S fuel (listed.setIfInBounds i true) a' w') a w
theorem Kn: ∀(fuel:Nat) (b:Array Bool) (a:Act) (w:World),qV l n P md ops Q S fuel b a w→wpAnyIn (Fence.wide.inRound l) n P md ops Q fuel b a w
 |0,_,_,_,h=>h
 |fuel+1,_,_,_,h=>⟨h.1,fun i hi=>wpOpIn_mono (fun a' w' h'=>Kn fuel _ a' w' h'.2) (h.2 i hi)⟩
theorem KU (hi:ops[i]?=some o)(e: ∀c,o.op≠ .defer c)(g:YieldsIf P ops S o v a)(d:S w)(h:K (a.put o.dst v) w):wpOpIn (Fence.wide.inRound l) n P ops Q i K a w:=by
 unfold wpOpIn;simp only[hi];rcases g with⟨b,f⟩|⟨b,rfl⟩
 ·rw[mM b];refine⟨fun _ _=>trivial,?_⟩;rw[r8,oq l a.eval o e,f w d];exact h
 ·rw[mN (by rw[b];simp)];exact⟨fun _ _=>trivial,h⟩
theorem fB {oj:Oper}(A:ops[j]?=some oj)(z: ∀c,oj.op≠ .defer c)(q:oi.apart ops oj=true)
  (s: ∀cs b,oi.op≠ .select cs b) (t: ∀cs b,oj.op≠ .select cs b)
  (p: ∀c a w,Q (.panic c) (a.put oi.dst v) w→Q (.panic c) a w)   
  (k:YieldsIf P ops S oi v a) (h:wpOpIn (Fence.wide.inRound l) n P ops Q j K (a.put oi.dst v) w):
  wpOpIn (Fence.wide.inRound l) n P ops Q j (fun a' w'=>YieldsIf P ops S oi v a'∧K (a'.put oi.dst v) w') a w:=by
 obtain⟨h1,h2,h3⟩:=Oper.apart_spec q
 have g: ∀(a:Act),YieldsIf P ops S oi v a→ ∀u,YieldsIf P ops S oi v (a.put oj.dst u):=fun a k u=>
  k.of_same (execOp_put oi s a oj.dst u h3) (wanted_put oi a oj.dst u h3)
 have m: ∀d,YieldsIf P ops S oi v {a with defers:=d::a.defers}:=fun d=>k.of_same rfl rfl;unfold wpOpIn at*;simp only[A] at*;rw[wanted_put oj a oi.dst v h1] at h;split
 ·rename_i y;simp only[y,if_true] at h;unfold Oper.wpIn at*;refine⟨fun _ _=>trivial,?_⟩;have h:=h.2;rw[r8,oq l _ oj z,execOp_put oj t a oi.dst v h1] at h;rw[r8,oq l _ oj z];generalize (execOp a.eval oj).run P w=r at*
  cases r with
  |ok x w'=>
   cases x<;>simp only[Oper.uponIn] at h⊢
   case value u=>exact⟨g a k u,by rw[←oT a v u h2];exact h⟩
   case skip=>exact⟨g a k _,by rw[←oT a v undef h2];exact h⟩
   case defer d=>
    refine⟨g _ (m d) _,?_⟩;rw[←oT _ v undef h2,←Act.put_defers];exact h
   case enter f args=>
    refine⟨h.1,CallsIn.mono h.2 fun e o i=>?_⟩
    cases e with
    |returned u=>exact⟨g a k u,by rw[←oT a v u h2];exact i⟩
    |panicked c=>exact p _ _ _ i
    |outgrown=>exact i
   case row row args=>exact⟨h.1,RowsIn.mono h.2 fun u o i=>⟨g a k u,by rw[←oT a v u h2];exact i⟩⟩
   case round l f tmps assign body=>
    refine⟨h.1,RoundIn.mono h.2 fun e o i=>?_⟩
    cases e with
    |returned u=>exact⟨g a k u,by rw[←oT a v u h2];exact i⟩
    |panicked c=>exact p _ _ _ i
    |outgrown=>exact i
  |halt x w'=>
   cases x<;>simp only[Oper.uponIn] at h⊢
   case panic u=>exact p _ _ _ h
 ·rename_i y;simp only[y] at h;exact⟨fun _ _=>trivial,g a k _,by rw[←oT a v undef h2];exact h.2⟩
theorem KD (hi:ops[i]?=some oi)(s:Zg ops=true)(g:Region.noSelect ops=true)
  (B: ∀c a w,Q (.panic c) (a.put oi.dst v) w→Q (.panic c) a w): ∀(fuel:Nat) (d:Array Bool) (a:Act) (w:World),
   (∀j m,ops[j]?=some m→j≠i→d.getD j true=false→(∀e∈m.after,Region.binds md e=true→e.on≠i)→oi.apart ops m=true)→
   i∈Region.ready md ops d→YieldsIf P ops S oi v a→S w→
   qV l n P md ops Q S fuel (d.setIfInBounds i true) (a.put oi.dst v) w→qV l n P md ops Q S (fuel+1) d a w
 |0,d,a,w,_,hr,hy,hS,H=>by
  refine⟨fun h=>absurd hr (by rw[h];simp),fun j hj=>?_⟩
  rcases Nat.decEq j i with hji|hji
  ·exact absurd (pE hj hji) (by rw[H.1];simp)
  ·subst hji;exact KU hi (qT s hi) hy hS ⟨hS,H⟩
 |fuel+1,d,a,w,hfree,hr,hy,hS,H=>by
  refine⟨fun h=>absurd hr (by rw[h];simp),fun j hj=>?_⟩
  rcases Nat.decEq j i with hji|hji
  ·obtain⟨hjun,m,hoj,hall⟩:=mem_ready.1 hj
   have f:=(mem_ready.1 hr).1
   have q: ∀e∈m.after,Region.binds md e=true→e.on≠i:=by
    intro e E D t;have h1:=hall e E D;rw[t] at h1;simp only[Array.getD_eq_getD_getElem?] at h1 f
    cases hx:d[i]? with
    |none=>rw[hx] at h1;simp at h1
    |some b=>rw[hx] at h1 f;simp at h1 f;rw[h1] at f;cases f
   have h2:=fB hoj (qT s hoj) (hfree j m hoj hji hjun q) (fun cs b=>rJ g i oi cs b hi) (fun cs b=>rJ g j m cs b hoj) B hy (H.2 j (pE hj hji))
   have y:=pE hr (Ne.symm hji)
   refine wpOpIn_mono (fun C w' h3=>?_) h2
   obtain⟨z,o,A⟩:=h3
   rw[Array.setIfInBounds_comm _ _ (Ne.symm hji)] at A
   refine⟨o,KD hi s g B fuel (d.setIfInBounds j true) C w' ?_ y z o A⟩
   intro k G F u r x
   refine hfree k G F u ?_ x
   by_cases p:j=k
   ·subst p;exact hjun
   ·rw[getD_set_ne true p] at r;exact r
  ·subst hji;exact KU hi (qT s hi) hy hS ⟨hS,H⟩
theorem jg (i:Nat)(v:Value)(hi:ops[i]?=some oi)(f:Zg ops=true)
  (hs:Region.noSelect ops=true) (e:Region.free md ops listed i=true) (g:(Region.ready md ops listed).contains i=true)
  (b: ∀c a w,Q (.panic c) (a.put oi.dst v) w→Q (.panic c) a w) (j:YieldsIf P ops S oi v a) (d:S w)
  (h:qV l n P md ops Q S fuel (listed.setIfInBounds i true) (a.put oi.dst v) w):qV l n P md ops Q S (fuel+1) listed a w:=
 KD hi f hs b fuel listed a w (Region.free_spec hi e) (by simpa using g) j d h
theorem rTk (i:Nat)(v:Value)(hi:ops[i]?=some oi)(k: ∀w,S w→(execOp a.eval oi).run P w= .ok (.value v) w)(d:S w)
  (h:qV l n P md ops Q S fuel (listed.setIfInBounds i true) (a.put oi.dst v) w) (g:Zg ops=true:=by kernel_rfl) (hs:Region.noSelect ops=true:=by kernel_rfl) (e:Region.free md ops listed i=true:=by kernel_rfl) (j:(Region.ready md ops listed).contains i=true:=by kernel_rfl) (b: ∀c a w,Q (.panic c) (a.put oi.dst v) w→Q (.panic c) a w:=by exact fun _ _ _ h=>h) (f:Region.wanted oi (yielded ops a.tmps)=true:=by kernel_rfl):qV l n P md ops Q S (fuel+1) listed a w:=
 jg i v hi g hs e j b (.inl ⟨f,k⟩) d h
theorem rT2 (i:Nat)(v:Value)(hi:ops[i]?=some oi)
  (h:qV l n P md ops Q S fuel (listed.setIfInBounds i true) (a.put oi.dst v) w) (b: ∀w,S w→(execOp a.eval oi).run P w= .ok (.value v) w:=by exact fun w' hw'=>by go_simp) (hS:S w:=by exact HS.out) (hn:Zg ops=true:=by kernel_rfl) (hs:Region.noSelect ops=true:=by kernel_rfl) (hf:Region.free md ops listed i=true:=by kernel_rfl) (hr:(Region.ready md ops listed).contains i=true:=by kernel_rfl) (hQ: ∀c a w,Q (.panic c) (a.put oi.dst v) w→Q (.panic c) a w:=by exact fun _ _ _ h=>h) (hg:Region.wanted oi (yielded ops a.tmps)=true:=by kernel_rfl):qV l n P md ops Q S (fuel+1) listed a w:=
 jg i v hi hn hs hf hr hQ (.inl ⟨hg,b⟩) hS h
theorem fk (i:Nat)(hi:ops[i]?=some o)(d:Zg ops=true)(e:o.guard=none)(c:Region.ready md ops listed= [i])
  (h:o.wp P a w (fun a' w'=>S w'∧qV l n P md ops Q S fuel (listed.setIfInBounds i true) a' w') Q):qV l n P md ops Q S (fuel+1) listed a w:=by
 refine⟨fun h0=>(by rw[c] at h0;cases h0),fun j b=>?_⟩;rw[c] at b;obtain rfl:=nx.1 b;unfold wpOpIn;simp only[hi];rw[mM (by simp[Region.wanted,e])];exact Zs (qT d hi) h
theorem rOn (i:Nat)(hi:ops[i]?=some o)
  (h:o.wp P a w (fun a' w'=>S w'∧qV l n P md ops Q S fuel (listed.setIfInBounds i true) a' w') Q) (b:Zg ops=true:=by kernel_rfl) (d:o.guard=none:=by rfl) (c:Region.ready md ops listed= [i]:=by kernel_rfl):qV l n P md ops Q S (fuel+1) listed a w:=
 fk i hi b d c h
theorem N2 (i:Nat){l':Nat}{fn:FuncId}{tmps:Array Value}{assign body:Code}{R:Ending→World→Prop}(hi:ops[i]?=some o)(k:Zg ops=true)(m:o.guard=none)(c:Region.ready md ops listed= [i])
  (b:(execOp a.eval o).run P w= .ok (.round l' fn tmps assign body) w) (f:RoundIn Fence.wide 0 P l' fn tmps assign body w R)
  (h: ∀e w',R e w'→ ∃v,e= .returned v∧S w'∧qV l n P md ops Q S fuel (listed.setIfInBounds i true) (a.put o.dst v) w'):qV l n P md ops Q S (fuel+1) listed a w:=by
 refine⟨fun h0=>(by rw[c] at h0;cases h0),fun j d=>?_⟩;rw[c] at d;obtain rfl:=nx.1 d;unfold wpOpIn;simp only[hi];rw[mM (by simp[Region.wanted,m])];refine⟨fun _ _=>trivial,?_⟩;rw[r8,oq l a.eval o (qT k hi),b];refine⟨(fun h=>by cases h),(Ke f l).mono ?_⟩;intro e w' c;obtain⟨v,rfl,g⟩:=h e w' c;exact g
theorem jf (b:Region.ready md ops listed= [])(h:Q .normal a w):qV l n P md ops Q S 0 listed a w:=⟨b,h⟩
theorem ZT (S:World→Prop){id:Nat}(b:P.follows .mixedOrders=true)
  (h:qV l n P .any ops (jV Q) S ops.size (Array.replicate ops.size false) a w.drew):(Code.region id ops true).wpIn (Fence.wide.inRound l) n P Q a w:=
 wpIn_mono (wpIn_region_any b (Kn _ _ _ _ h)) jV.imp
end
abbrev ng:= @Boxed.cell
abbrev oE:= @run_takeDeferred
abbrev pj:= @wpListIn_plain
abbrev p9:= @enters_of
abbrev rS:= @callsIn_of_wp_marks
attribute [local go_sem] oq
theorem jV.mk {Q:Exit→Act→World→Prop}(h:Q .normal a w):jV Q .normal a w:=h
def gX (bs:List (List Int)) (x:Fin bs.length):Array Value:= #[.agg ((bs.getD x.val []).map (Value.int .u8)).toArray]
def KA (Bt lo hi:Nat):Nat→Prop:=(fun k=>k=Bt∨(lo≤k∧k<hi)∨k=0)
theorem ff {bs:List (List Int)}(h: ∀b∈bs,b.length=64){k:Nat}(f:k<bs.length)(e:((bs.getD k []).map (Value.int .u8))[j]?=some v):(bs.flatten.map (Value.int .u8))[k*64+j]?=some v:=by
 induction bs generalizing k with
 |nil=>simp at f
 |cons b r ih=>
  have d:=h b zn
  cases k with
  |zero=>
   have a:(b.map (Value.int .u8))[j]?=some v:=by simpa using e
   have c:j<b.length:=by have:=(nD.1 a).1;simpa using this
   rw[oC,m6,pZ,ni,nZ (by simpa using c)];exact a
  |succ k=>
   rw[oC,m6,oM (by rw[mO,d];omega),mO,d,show(k+1)*64+j-64=k*64+j by omega];exact ih (fun x g=>h x (by simp[g])) (by simpa using f) (by simpa using e)
def up1 {q:Int} {hs:List Wr} {rs:List Int} (x:Fin (pcN rs.length 26)):Fin (BL q hs rs).length:=⟨x.val,by rw[bi];have:=x.isLt;omega⟩
def upJ {q:Int} {hs:List Wr} {rs:List Int} (x:Fin (pcN hs.length 17)) (j:Fin (pcE hs.length 17 x.val-17*x.val+1)):Fin (BL q hs rs).length:=
 ⟨pcN rs.length 26+18*x.val+j.val,by rw[bi];exact l9 x.isLt (by have:=j.isLt;omega)⟩
def up2 {q:Int} {hs:List Wr} {rs:List Int} (x:Fin (pcN hs.length 17)):List (Fin (BL q hs rs).length):=(List.finRange (pcE hs.length 17 x.val-17*x.val+1)).map (upJ (q:=q) (rs:=rs) x)
theorem ND {hs:List Wr}(pre:List (Fin (pcN rs.length 26))):(pre.map (up1 (q:=q) (hs:=hs))).map Fin.val=pre.map Fin.val:=by
 rw[oR];rfl
theorem eo {hs:List Wr}(x:Fin (pcN hs.length 17)):(up2 (q:=q) (rs:=rs) x).map Fin.val=plc (pcN rs.length 26) hs.length x.val:=by
 unfold up2 plc;rw[oR];apply p8
 ·simp
 ·intro i h1 h2;simp[upJ]
theorem ky {hs:List Wr}(x:Fin (pcN hs.length 17)){k:Nat}(h:k<pcE hs.length 17 x.val-17*x.val+1):(up2 (q:=q) (rs:=rs) x).take (k+1)=(up2 x).take k++ [upJ x ⟨k,h⟩]:=by
 have e:(up2 (q:=q) (rs:=rs) x)[k]?=some (upJ x ⟨k,h⟩):=by
  unfold up2;rw[nU,mZ (by simpa using h)];simp
 rw[sO,e];rfl
theorem kO {hs:List Wr}(pre:List (Fin (pcN hs.length 17))):(pre.flatMap (up2 (q:=q) (rs:=rs))).length≤18*pre.length:=by
 induction pre with
 |nil=>simp
 |cons x r ih=>
  have:(up2 (q:=q) (rs:=rs) x).length≤18:=by unfold up2;rw[mO,List.length_finRange];have:=bV (L:=hs.length) (m:=17) (x:=x.val);omega
  rw[nX,mL,m7];omega
theorem N0 {hs:List Wr}(pre:List (Fin (pcN hs.length 17))):(pre.flatMap (up2 (q:=q) (rs:=rs))).map Fin.val=(pre.map Fin.val).flatMap (plc (pcN rs.length 26) hs.length):=by
 induction pre with
 |nil=>rfl
 |cons x r ih=>rw[nX,m6,eo,ih,nR,nX]
theorem jB {V V':World}{l:Nat}(c:zr l l V V'):V.grownBy V' none:=⟨c.os,c.tape,c.output,c.size,fun k a _=>c.bk k a⟩
def ahI (W:World) (l Bt lo hi:Nat) (ao:Option Addr) (cap:Nat) {q:Int} {hs:List Wr} {rs:List Int} (J:List (Fin (BL q hs rs).length)→World→Prop) (pre:List (Fin (pcN rs.length 26))) (V:World):Prop:=
 J (pre.map up1) V∧V.heap[W.heap.size]?=some (zi #[.func (.yield l) #[] #[]] 197)∧qG (KA Bt lo hi) W V∧(V.heap[W.heap.size+1]?=some (zi #[zj ao rs.length cap] 33)∧V.heap[W.heap.size+1+1]?=some (zi #[za 26] 3))
def ahX {q:Int} {hs:List Wr} {rs:List Int} (Jx:List (Fin (BL q hs rs).length)→World→Prop) (c:Code) (pre:List (Fin (pcN rs.length 26))) (V:World):Prop:=c= .ret∧Jx (pre.map up1) V
def mF (W V1:World) (l Bt lo hi D:Nat) (po:Option Addr) (pcap:Nat) {q:Int} {hs:List Wr} {rs:List Int} (zs:List (Fin (BL q hs rs).length)) (J:List (Fin (BL q hs rs).length)→World→Prop) (pre:List (Fin (pcN hs.length 17))) (V:World):Prop:=
 J (zs++pre.flatMap up2) V∧V.heap[W.heap.size]?=some (zi #[.func (.yield l) #[] #[]] 197)∧qG (KA Bt lo hi) W V∧V.heap[V1.heap.size]?=some (zi #[zj po hs.length pcap] 32)∧V.heap[V1.heap.size+1]?=some (zi #[za 17] 3)∧V.heap[D]?=some (.deferred (some []))
def mG (D:Nat) {q:Int} {hs:List Wr} {rs:List Int} (zs:List (Fin (BL q hs rs).length)) (Jx:List (Fin (BL q hs rs).length)→World→Prop) (c:Code) (pre:List (Fin (pcN hs.length 17))) (V:World):Prop:=
 c= .ret∧(∃pre' x k,pre=pre'++ [x]∧k≤pcE hs.length 17 x.val-17*x.val+1∧Jx (zs++pre'.flatMap up2++(up2 x).take k) V)∧V.heap[D]?=some (.deferred (some []))
theorem eA (t lo hi:Nat)(q:Int)(hs:List Wr)(rs:List Int)(hv rv:Value)(w:World)(R:OkT q hs rs)(hn:hs.length+rs.length≤128)(hM:Mag w)(aP:w.heap[t]?=some (zi #[za q,hv,rv] 35))
  (h1:qW w lo hi hv hs) (h2:zC w lo hi .i64 rv rs) (bW:hi≤w.heap.size:=by omega):
  ez Tryz.prog 114 #[zh t] (gX (BL q hs rs)) (KpT (KA t lo hi))
   (fun zs=>zs.map Fin.val=List.range (BL q hs rs).length) (fun zs=>zs.map Fin.val=List.range zs.length) (pcN rs.length 26+18*pcN hs.length 17) w:=fun l J Jx W hW hJ am hY h0=>by
 have aI:t<w.heap.size:=(zE aP)
 have ba:=hM.lt
 have bO:=hW.size
 have M: ∀k,KA t lo hi k→k<W.heap.size:=fun k d=>by unfold KA at d;omega
 have af:Hid (∀V,qG (KA t lo hi) W V→V.heap[t]?=some (zi #[za q,hv,rv] 35)):=fun V h=>(h t (Or.inl rfl)).trans ((hW.block t aI).trans aP)
 have HP:Hid (∀V,qG (KA t lo hi) W V→qW V lo hi hv hs):=fun V h=>h1.keep (fun b aU aV=>(h b (Or.inr (Or.inl ⟨aU,aV⟩))).trans (hW.block b zk))
 have HR:Hid (∀V,qG (KA t lo hi) W V→zC V lo hi .i64 rv rs):=fun V h=>h2.keep (fun b aU aV=>(h b (Or.inr (Or.inl ⟨aU,aV⟩))).trans (hW.block b zk))
 have HM:Hid (∀V,qG (KA t lo hi) W V→Mag V):=fun V h=>by
  have hb:=(h 0 (Or.inr (Or.inr rfl))).trans (hW.block _ ba)
  exact⟨(nQ (a:=(zd 0)) hb).trans hM.m0,(nQ (a:=⟨0,1,none⟩) hb).trans hM.m1,(nQ (a:=⟨0,2,none⟩) hb).trans hM.m2,(nQ (a:=⟨0,3,none⟩) hb).trans hM.m3⟩
 have K0:qG (KA t lo hi) W W:=fun _ _=>rfl
 obtain⟨po,z,rfl⟩:=h1.slice
 obtain⟨ao,cap,rfl⟩:=h2.slice
 have bz:=af.out W K0
 obtain⟨⟨t0,t1,t2⟩,_⟩:=tri bz
 clear hM aP h1 h2 ba aI
 have cA:zr 0 0 W (W.alloc (zi #[.func (.yield l) #[] #[]] 197)):=zr.al W
 have zY:=zt W (zi #[.func (.yield l) #[] #[]] 197)
 have sA:(W.alloc (zi #[.func (.yield l) #[] #[]] 197)).heap.size=W.heap.size+1:=zn
 have d2:=cA.cell t2 (by have:=zV t2;omega)
 refine rS Tryz.func114 rfl trivial ?_ rfl
 simp only[Tryz.ntmps114,pA,m7,nH,Nat.reduceAdd,Nat.reduceSub,pL,pM,pO,pP,nG,oD]
 gi_wp2
 refine⟨trivial,rfl,(nP.2 (UX _ _ _ _ _)).mono ?_⟩
 rintro e w1 ⟨rfl,rfl⟩
 clear d2
 generalize W.alloc (zi #[.func (.yield l) #[] #[]] 197)=wA at*
 obtain⟨y1,y2,y3⟩:=zU wA (zi #[zj ao rs.length cap] 33) (zi #[za 26] 3)
 have cB:zr 0 0 wA ((wA.alloc (zi #[zj ao rs.length cap] 33)).alloc (zi #[za 26] 3)):=(zr.al wA).alloc _
 have br:=cB.bt zY
 have aM:=cA.trans cB
 rw[sA] at y1 y2 y3⊢
 generalize (wA.alloc (zi #[zj ao rs.length cap] 33)).alloc (zi #[za 26] 3)=wB at*
 clear zY cA cB sA
 gi_wp2
 obtain⟨b,f,aT⟩: ∃b f,0<rs.length→ao=some ⟨b,f,none⟩:=by
  obtain⟨ai,P,e,_,_,h⟩:=HR.out W K0
  cases e
  rcases h with h|⟨b,f,h,_⟩
  ·exact⟨0,0,fun hp=>by rw[h] at hp;simp at hp⟩
  ·exact⟨b,f,fun _=>h⟩
 have G:rs.length≤cap:=by
  obtain⟨ai,P,e,_,⟨h,_⟩,_⟩:=HR.out W K0
  cases e
  exact h
 refine JJ (n:=0) (gf:=141) (lb:= #[zh (W.heap.size+1),.pointer (some ⟨W.heap.size+1+1,0,none⟩)]) rfl (p9 Tryz.func141 zl rfl)
  (ah (W.heap.size+1) (W.heap.size+1+1) b f cap rs.length ao wB zk G aT (ng y2) (ng y3)) (fun h=>h) (pg _ _) (fun _=>rfl) qG.trans (fun V o _ _ k d=>World.putObj_heap_other zk)
  (ahI W l t lo hi ao cap J) (ahX Jx)
  ?hI ?hIx ?h0 (fun x a' V=>a'= {tmps:= #[.func (.yield l) #[] #[],zh t,zh W.heap.size,zj (some ⟨b,f+26*x.val,none⟩) (pcE rs.length 26 x.val-26*x.val) (cap-26*x.val),undef,undef,undef,.pointer (some ⟨t,2,none⟩),zj ao rs.length cap,.func (.func 141) #[] #[zh (W.heap.size+1),.pointer (some ⟨W.heap.size+1+1,0,none⟩)],zj (some ⟨b,f+26*x.val,none⟩) (pcE rs.length 26 x.val-26*x.val) (cap-26*x.val),undef,undef,undef,undef,undef,undef,undef,undef,undef,undef,undef,undef,undef,undef,undef,undef,undef,undef,undef,undef,undef,undef,undef,undef,undef,undef,undef],defers:= []})
  (fun x a' _ _ _ _ hs _ _=>hs) ?assign ?body ?done ?stop
 case hI=>
  exact fun s A C I ac Q U=>by
   obtain⟨h2,h3,h5,h6,h7⟩:=ac;have u: ∀k,k<W.heap.size+3→some k≠I:=fun k d e=>by have:=(U _ e.symm).1;omega
   refine⟨hJ _ A C I h2 Q (fun r e=>⟨by have:=(U r e).1;omega,(U r e).2⟩),(Q.block _ (zE h3) (u _ zk)).trans h3,?_,(Q.block _ (zE h6) (u _ zk)).trans h6,(Q.block _ (zE h7) (u _ zk)).trans h7⟩;intro k d;have aE:=M k d;exact(Q.block k (by have:=(zE h3);omega) (u _ zk)).trans (h5 k d)
 case hIx=>
  exact fun c s A C I ac Q U=>by
   obtain⟨h1,h2⟩:=ac;exact⟨h1,am _ A C I h2 Q (fun r e=>⟨by have:=(U r e).1;omega,(U r e).2⟩)⟩
 case h0=>
  intro V hV bm;refine⟨h0 V ((aM.below (Or.inl nlR)).trans (hV.mono zk)),(hV.block _ zk).trans br,?_,(hV.block _ zk).trans y2,(hV.block _ zk).trans y3⟩;intro k d;have aE:=M k d;exact(hV.block k zk).trans (aM.bk k aE)
 case assign=>
  rintro l' pre x V K' aS G hi' hK;simp only[Eo];gi_wp2;exact hK _ _ (ZK.refl _ _) (fun _ _=>rfl) hi' rfl
 case body=>
  rintro l' pre x a' V aS ⟨r0,G⟩ ⟨aR,e1,e3,e6,e7⟩ rfl bf;have bE:Tryz.prog.follows .mixedOrders=true:=zl;have bG:=XP (m:=26) zk x.isLt;have aY:pcE rs.length 26 x.val-26*x.val≤26:=bV;have aZ:1≤pcE rs.length 26 x.val-26*x.val:=by unfold pcE;omega
  have E:=dM 26 x.val rs;have aO:=ey q hs rs x.isLt;obtain⟨ps,B⟩: ∃ps,ps=(rs.drop (26*x.val)).take 26:=⟨_,rfl⟩;rw[←B] at E aO;obtain⟨N,hN⟩: ∃N,N=pcE rs.length 26 x.val-26*x.val:=⟨_,rfl⟩;rw[←hN] at aY aZ E⊢;obtain rfl:=aT zk;have Z:Hid (∀T,qG (KA t lo hi) W T→ ∀i,i<ps.length→T.cell? ⟨b,f+26*x.val+i,none⟩=some (za (ps.getD i 0))):=fun T d i aq=>by
   obtain⟨ai,P,e,_,_,h⟩:=HR.out T d
   cases e
   rcases h with h|⟨b',bp,h,_,_,h3⟩
   ·have bD:rs.length=0:=by rw[h];rfl
    omega
   ·cases h
    have aX:26*x.val+i<rs.length:=by
     rw[B,mW,m8] at aq;omega
    have e:ps.getD i 0=rs.getD (26*x.val+i) 0:=by
     rw[B,mW,m8] at aq;rw[B];simp only[mV,oA,oQ];rw[mM zk]
    rw[e,pm];exact h3 _ aX
  have bu:Hid (∀y∈ps,0≤y∧y<2048):=fun y hy=>R.rev.bound nlR y (by rw[B] at hy;exact rj (ot hy));have q0:=R.q0;have q1:=R.q1;have aA:Hid _:=E;have bs:Hid _:=aO;have S0:V.drew.heap[W.heap.size]?=some (zi #[.func (.yield l) #[] #[]] 197):=e1;have cd:zr 0 0 V V.drew:=zr.drew (zr.refl 0 0 V);have kd:qG (KA t lo hi) W V.drew:=e3;have HS:Hid (_∧_):=⟨S0,(tri (af _ kd)).1.1⟩;have bN:=(zE S0);have bZ:V.drew.heap.size=V.heap.size:=rfl
  clear B E aO hN S0;gi_wp2;refine ZT (fun w':World=>w'.heap[W.heap.size]?=some (zi #[.func (.yield l) #[] #[]] 197)∧w'.cell? (zd t)=some (za q)) bE ?_;generalize V.drew=X at*;refine rTk 0 (.func (.yield l) #[] #[]) rfl (fun w' ax=>by have q1:=ng ax.1;go_simp) HS.out ?_;go_simp;refine rT2 1 (zh t) rfl ?_;go_simp;refine rTk 2 (za q) rfl (fun w' ax=>by have q1:=ax.2;go_simp) HS.out ?_;go_simp;refine rT2 3 (zj (some ⟨b,f+26*x.val,none⟩) N (cap-26*x.val)) rfl ?_
  go_simp;refine rT2 4 (.agg #[za q,zj (some ⟨b,f+26*x.val,none⟩) N (cap-26*x.val)]) rfl ?_;go_simp;refine rOn 5 rfl ?_;refine zv 116 #[.agg #[za q,zj (some ⟨b,f+26*x.val,none⟩) N (cap-26*x.val)]] zq (Uc X q b (f+26*x.val) N (cap-26*x.val) zk (HM.out X kd)) ?_;rintro e X2 ⟨rfl,c2⟩;have k2:qG (KA t lo hi) W X2:=fun k d=>(c2.bk k (by have:=M k d;omega)).trans (kd k d);have ay:Hid (_∧_):=⟨c2.bt HS.1,c2.cell HS.2⟩
  refine⟨_,rfl,ay,?_⟩;go_simp;have hE:=J4 X2 (N:Int) q ps b (f+26*x.val) (cap-26*x.val) zk zk (pn2) (pn4) (by rw[aA.out];omega) bu (Z X2 k2);rw[aA.out] at hE;rw[show qk (zD 3 (N:Int) q++qm ps)=(BL q hs rs).getD x.val [] from by rw[bs.out];unfold Q4;rw[aA.out]] at hE;refine rOn 6 rfl ?_;refine zv 117 #[.agg #[zb 106,zb 108,zb 111,zb 103,za 3,za N,za q,zj (some ⟨b,f+26*x.val,none⟩) N (cap-26*x.val)]] zq hE ?_
  rintro e X3 ⟨rfl,c3⟩;have k3:qG (KA t lo hi) W X3:=fun k d=>(c3.bk k (by have:=M k d;have:=c2.size;omega)).trans (k2 k d);have aL:Hid (_∧_):=⟨(c3.bk _ (by have:=c2.size;omega)).trans ay.1,c3.cell ay.2⟩;refine⟨_,rfl,aL,?_⟩;have aB:zr 0 0 V X3:=cd.trans (c2.trans c3);obtain⟨fn,tmps,assign,body,hy,hR⟩:=hY (pre.map up1) (up1 x) X3 (by have:=aB.size;omega) (hJ _ V X3 none aR (jB aB) (fun r e=>by cases e)) (by rw[mO];omega)
  simp only[gX,up1] at hy;generalize ((BL q hs rs).getD x.val []).map (Value.int .u8)=cs at*;clear hE c2 c3 HS ay;go_simp;refine N2 7 rfl zl rfl zl zm hR ?_;rintro e V3 ⟨⟨m1,m2⟩,bl⟩;have f1:=(m2.2.1 _ _ _ _ lJ aL.1).trans aL.1;have f3:qG (KA t lo hi) W V3:=k3.trans m2.1;have az:Hid ((fun w':World=>w'.heap[W.heap.size]?=some (zi #[.func (.yield l) #[] #[]] 197)∧w'.cell? (zd t)=some (za q)) V3):=⟨f1,(tri (af V3 f3)).1.1⟩
  have kV:KpT (KA t lo hi) W.heap.size V V3:=(KpT.chg0 aB (fun k d=>by have:=M k d;omega)).trans m2;have S:ZK wB.heap.size V V3:=⟨by have:=aB.size;omega,kV.2.2 _ _ zk G.df rfl,kV.2.2 _ _ zk G.lp rfl⟩;rw[y1] at S;have O:qG (fun k=>k=W.heap.size+1∨k=W.heap.size+1+1) V V3:=fun k d=>by
   rcases d with rfl|rfl
   ·exact kV.2.1 _ _ _ _ mB e6
   ·exact kV.2.1 _ _ _ _ kx e7
  rcases bl with⟨rfl,L⟩|⟨rfl,L⟩
  ·refine⟨_,rfl,az,?_⟩;go_simp;refine rTk 8 (.bool false) rfl (fun w' ax=>zm) az.out ?_;go_simp;refine jf zl ?_;refine jV.mk ?_;gi_wp2;exact⟨⟨S,O⟩,by rw[m6];exact L,f1,f3,(O _ (Or.inl rfl)).trans e6,(O _ (Or.inr rfl)).trans e7⟩
  ·refine⟨_,rfl,az,?_⟩;go_simp;refine rTk 8 (.bool true) rfl (fun w' ax=>zm) az.out ?_;go_simp;refine jf zl ?_;refine jV.mk ?_;gi_wp2;exact⟨⟨S,O⟩,rfl,by rw[m6];exact L⟩
 case stop=>
  rintro D c pre V hD aC ⟨rfl,hx⟩ hK;gi_wp2;refine⟨zn,.inl ⟨_,_,rfl,oE hK,?_⟩⟩;refine⟨_,ph rfl _ _ _,⟨_,rfl⟩,.inr ⟨_,by rw[ND,aC,mO],?_⟩⟩;exact am.putObj _ hx zk hK rfl
 case done=>
  rintro D xs H hD hS ⟨aR,e1,e3,_,_⟩ hK;have bP:=(zE hK);have bR:W.heap.size+3≤H.heap.size:=zk;obtain⟨⟨_,bI,_⟩,_⟩:=tri (af H e3);obtain⟨b2,F,bg⟩: ∃b f,0<hs.length→po=some ⟨b,f,none⟩:=by
   obtain⟨ai,P,e,_,_,h⟩:=HP.out W K0
   cases e
   rcases h with h|⟨b,f,h,_⟩
   ·exact⟨0,0,fun hp=>by rw[h] at hp;simp at hp⟩
   ·exact⟨b,f,fun _=>h⟩
  have bF:hs.length≤z:=by
   obtain⟨ai,P,e,_,h,_⟩:=HP.out W K0
   cases e
   exact h
  clear y2 y3 br aM aT G;gi_wp2;refine⟨trivial,rfl,(nP.2 (UW _ _ _ _ _)).mono ?_⟩;rintro e w1 ⟨rfl,rfl⟩;obtain⟨bK,y2,y3⟩:=zU H (zi #[zj po hs.length z] 32) (zi #[za 17] 3);have cC:zr 0 0 H ((H.alloc (zi #[zj po hs.length z] 32)).alloc (zi #[za 17] 3)):=(zr.al H).alloc _;generalize (H.alloc (zi #[zj po hs.length z] 32)).alloc (zi #[za 17] 3)=wC at*;gi_wp2;refine JJ (n:=0) (gf:=142) (lb:= #[zh H.heap.size,zh (H.heap.size+1)]) rfl (p9 Tryz.func142 zl rfl)
   (ag H.heap.size (H.heap.size+1) b2 F z hs.length po wC zk bF bg (ng y2) (ng y3)) (fun h=>h) (pg _ _) (fun _=>rfl) qG.trans (fun V o _ _ k d=>World.putObj_heap_other zk)
   (mF W H l t lo hi D po z (xs.map up1) J) (mG D (xs.map up1) Jx)
   ?hI ?hIx ?h0 (fun x a' V=>a'= {tmps:= #[.func (.yield l) #[] #[],zh t,zh W.heap.size,undef,zj (some ⟨b2,F+17*x.val*2,none⟩) (pcE hs.length 17 x.val-17*x.val) (z-17*x.val),undef,undef,.pointer (some ⟨t,2,none⟩),zj ao rs.length cap,.func (.func 141) #[] #[zh (W.heap.size+1),.pointer (some ⟨W.heap.size+1+1,0,none⟩)],undef,undef,undef,undef,undef,undef,undef,undef,undef,undef,.pointer (some ⟨t,1,none⟩),zj po hs.length z,.func (.func 142) #[] #[zh H.heap.size,zh (H.heap.size+1)],zj (some ⟨b2,F+17*x.val*2,none⟩) (pcE hs.length 17 x.val-17*x.val) (z-17*x.val),undef,undef,undef,undef,undef,undef,undef,undef,undef,undef,undef,undef,undef,undef],defers:= []})
   (fun x a' _ _ _ _ hs _ _=>hs) ?assign ?body ?done ?stop
  case hI=>
   exact fun s A C I ac Q U=>by
    obtain⟨h2,h3,h5,h6,h7,h8⟩:=ac;have u: ∀k,k<H.heap.size+2→some k≠I:=fun k d e=>by have:=(U _ e.symm).1;omega
    refine⟨hJ _ A C I h2 Q (fun r e=>⟨by have:=(U r e).1;omega,(U r e).2⟩),(Q.block _ (zE h3) (u _ zk)).trans h3,?_,(Q.block _ (zE h6) (u _ zk)).trans h6,(Q.block _ (zE h7) (u _ zk)).trans h7,(Q.block _ (zE h8) (u _ zk)).trans h8⟩;intro k d;have aE:=M k d;exact(Q.block k (by have:=(zE h3);omega) (u _ zk)).trans (h5 k d)
  case hIx=>
   exact fun c s A C I ac Q U=>by
    obtain⟨h1,⟨p,x,k,h2,h3,h4⟩,h8⟩:=ac;have u: ∀k,k<H.heap.size+2→some k≠I:=fun k d e=>by have:=(U _ e.symm).1;omega
    exact⟨h1,⟨p,x,k,h2,h3,am _ A C I h4 Q (fun r e=>⟨by have:=(U r e).1;omega,(U r e).2⟩)⟩,(Q.block _ (zE h8) (u _ zk)).trans h8⟩
  case h0=>
   intro V hV bm;refine⟨?_,(hV.block _ zk).trans (cC.bt e1),?_,(hV.block _ zk).trans y2,(hV.block _ zk).trans y3,(hV.block _ zk).trans (cC.bt hK)⟩
   ·rw[List.flatMap_nil,nw];have c2:zr 0 0 H V:=cC.trans (zr.ofBelow hV 0 0);exact hJ _ H V none aR (jB c2) (fun r e=>by cases e)
   ·intro k d;have aE:=M k d;exact(hV.block k zk).trans ((cC.bk k).trans (e3 k d))
  case assign=>
   rintro l' pre x V K' aS G hi' hK;simp only[Eo];gi_wp2;exact hK _ _ (ZK.refl _ _) (fun _ _=>rfl) hi' rfl
  case body=>
   rintro l' pre x a' V aS ⟨r0,G⟩ ⟨a9,f1,f3,f6,f7,f8⟩ rfl bf;have bG:=XP (m:=17) zk x.isLt;have aY:pcE hs.length 17 x.val-17*x.val≤17:=bV;have aZ:1≤pcE hs.length 17 x.val-17*x.val:=by unfold pcE;omega
   have E:=dM 17 x.val hs;obtain⟨ps,B⟩: ∃ps,ps=(hs.drop (17*x.val)).take 17:=⟨_,rfl⟩;have a1:Hid (∀j,j≤pcE hs.length 17 x.val-17*x.val→(BL q hs rs).getD (pcN rs.length 26+18*x.val+j) []=(zW q ps).getD j []):=fun j hj=>by rw[B];exact be q hs rs x.isLt hj
   rw[←B] at E;have aw:OkT q ps []:=by
    have h:=(OkT.dropH (rs:= []) ⟨R.q0,R.q1,z8.zero [],R.home,R.data,R.byt⟩ (17*x.val)).takeH 17;rw[B];exact h
   obtain rfl:=bg zk;have Z:Hid (∀T,qG (KA t lo hi) W T→ ∀i,i<ps.length→ ∃dv,T.cell? ⟨b2,F+17*x.val*2+i*2,none⟩=some (za (ps.getD i (0,[])).1)∧T.cell? ⟨b2,F+17*x.val*2+i*2+1,none⟩=some dv∧zC T lo hi .u8 dv (ps.getD i (0,[])).2):=fun T d i aq=>by
    obtain⟨ai,P,e,_,_,h⟩:=HP.out T d
    cases e
    rcases h with h|⟨b',bp,h,_,_,h3⟩
    ·have bD:hs.length=0:=by rw[h];rfl
     omega
    ·cases h
     have aX:17*x.val+i<hs.length:=by
      rw[B,mW,m8] at aq;omega
     have e:ps.getD i (0,[])=hs.getD (17*x.val+i) (0,[]):=by
      rw[B,mW,m8] at aq;rw[B];simp only[mV,oA,oQ];rw[mM zk]
     rw[e,show F+17*x.val*2+i*2=F+(17*x.val+i)*2 by omega];exact h3 _ aX
   have aA:Hid _:=E;have ad:=K2 V (lo:=lo) (hi:=hi) q ps b2 (F+17*x.val*2) (z-17*x.val) aw (by rw[E];omega) (by rw[E];omega) (HM V f3) (Z V f3);rw[E] at ad;have bH:=(tri (af V f3)).1.1;have aJ:=En aw (by rw[E];omega);have aH:Hid ((zW q ps).length=pcE hs.length 17 x.val-17*x.val+1):=by show _=_;unfold zW;rw[m7,mO,E]
   clear B E aw bI;obtain⟨N,hN⟩: ∃N,N=pcE hs.length 17 x.val-17*x.val:=⟨_,rfl⟩;have HN:Hid _:=hN;rw[←hN] at aY aZ ad aH⊢;clear hN;gi_wp2;refine⟨trivial,rfl,(nP.2 ad).mono ?_⟩;rintro e V0 ⟨g,rfl,bS,ab,c0⟩;have bU:=ab.lt;have a0:KpT (KA t lo hi) W.heap.size V V0:=KpT.chg0 c0 (fun k d=>by have:=M k d;omega);have a3:Hid _:=ab;have aj:=hJ _ V V0 none a9 (jB c0) (fun r e=>by cases e);have s0:=c0.size;have bQ:((1+N:Nat):Int)=1+(N:Int):=zk
   clear ad bH ab;gi_wp2;gi_loopw [29] (fun y wr=> ∃k:Nat,k≤1+N∧y=za k∧J (xs.map up1++pre.flatMap up2++(up2 x).take k) wr∧V0.heap.size≤wr.heap.size∧KpT (KA t lo hi) W.heap.size V0 wr) (fun y _=>1+N-(intOf y).toNat)
   case atStart=>exact⟨0,mX _,rfl,by rw[oI,nw];exact aj,mP _,fun _ _=>rfl,fun _ _ _ _ _ _=>rfl,fun _ _ _ _ _=>rfl⟩
   case round=>
    obtain⟨k,d,rfl,ak,bm,ae⟩:=hrel;have bo:=a0.trans ae;have g1:wr.heap[W.heap.size]?=some (zi #[.func (.yield l) #[] #[]] 197):=(bo.2.1 _ _ _ _ lJ f1).trans f1;have ab:qR wr g 78 ((zW q ps).flatten.map (Value.int .u8)):=(ae.2.1 _ _ _ _ lI a3).trans a3;by_cases bY:k<1+N
    ·have bX:(k:Int)<((1+N:Nat):Int):=zk;have bM:(k:Int)<1+(N:Int):=zk;have au:k<pcE hs.length 17 x.val-17*x.val+1:=by have:=HN.out;omega
     have aF:=ky (q:=q) (rs:=rs) x au;obtain⟨cs,ap⟩: ∃cs,cs=((zW q ps).getD k []).map (Value.int .u8):=⟨_,rfl⟩;have aD:k<(zW q ps).length:=by rw[aH.out];omega
     have bd:(zW q ps).getD k []=(zW q ps)[k]:=by simp[aD]
     have aW:cs.length=64:=by rw[ap,mO,bd];exact aJ _ (nj aD)
     have a4:Hid (wr.rangeAt g (k*64) cs):=by
      intro j v hj;refine ab.cell _ ?_;rw[ap] at hj;exact ff aJ aD hj
     have ar:(Tryz.prog.info? 78).map (·.size)=some cs.length:=by rw[aW];kernel_rfl
     have bv:Hid (∀v∈cs,v.oneCell'=true):=by show∀v∈cs,v.oneCell'=true;rw[ap];exact nf _ _
     have aG:Hid (gX (BL q hs rs) (upJ (q:=q) (rs:=rs) x ⟨k,au⟩)= #[.agg cs.toArray]):=by
      show _=_;unfold gX upJ;simp only;rw[a1.out k (by have:=HN.out;omega),ap]
     have bw:Hid _:=aW;have bq:=Tryz.underlying78;have a6:Hid (∀W':World,zr 0 0 wr W'→J (xs.map up1++pre.flatMap up2++(up2 x).take k) W'):=fun W' c=>hJ _ wr W' none ak (jB c) (fun r e=>by cases e);have a2:Hid (∀W':World,zr 0 0 wr W'→W'.heap[W.heap.size]?=some (zi #[.func (.yield l) #[] #[]] 197)):=fun W' c=>(c.bk _ (zE g1)).trans g1;clear ap aW bd ab aD ak;have av:(xs.map up1++pre.flatMap up2++(up2 (q:=q) (rs:=rs) x).take k).length<pcN rs.length 26+18*pcN hs.length 17:=by
      have h1:((up2 (q:=q) (rs:=rs) x).take k).length≤k:=by rw[mW];exact Nat.min_le_left _ _
      have h2:=kO (q:=q) (rs:=rs) pre;have h3:xs.length=pcN rs.length 26:=by have:=nI List.length hS;simpa using this
      rw[mL,mL,mO];omega
     have a5:Hid (∀Y:World,zr 0 0 wr Y→Y.rangeAt wr.heap.size 0 cs→(Y.cell? (zd W.heap.size)=some (.func (.yield l) #[] #[])∧Y.rangeAt wr.heap.size 0 cs∧KpT (KA t lo hi) W.heap.size V0 Y∧V0.heap.size≤Y.heap.size)∧Yields Tryz.prog l #[.agg cs.toArray] Y fun e T=>(Y.heap.size≤T.heap.size∧KpT (KA t lo hi) W.heap.size Y T)∧((e= .returned (.bool true)∧J (xs.map up1++pre.flatMap up2++(up2 x).take k++ [upJ x ⟨k,au⟩]) T)∨(e= .returned (.bool false)∧Jx (xs.map up1++pre.flatMap up2++(up2 x).take k++ [upJ x ⟨k,au⟩]) T))):=fun Y cg U=>by
      have h:=hY (xs.map up1++pre.flatMap up2++(up2 x).take k) (upJ x ⟨k,au⟩) Y (by have:=cg.size;omega) (a6 Y cg) av;rw[aG.out] at h;exact⟨⟨ng (a2 Y cg),U,ae.trans (KpT.chg0 cg (fun k d=>by have:=M k d;omega)),by have:=cg.size;omega⟩,h⟩
     clear hY a6 a2 aG av ae aj bo g1;gi_wp2_with (first
      |(refine pj rfl fun K hK=>?_;refine Zs (fun _ h=>by cases h) ?_;refine wp_load_mid 78 (.tmp 31) rfl g (k*64) rfl cs _ a4 bq rfl ar ?_;refine hK _ _ ?_)
      |(refine pj rfl fun K hK=>?_;refine Zs (fun _ h=>by cases h) ?_;refine wp_store_row 78 (.tmp 6) (.tmp 32) rfl rfl wr.heap.size rfl cs _ 78 rfl (zt wr _) (by rw[bw.out];rfl) ar bv ?_;intro Y bb bc;obtain⟨⟨a7,bj,kg,sg⟩,fn,tmps,assign,body,hy,hR⟩:=a5.out Y ((zr.al wr).step bc (Or.inr (Or.inl nlR))) (zy bb);have aK:Hid (Y.rangeAt wr.heap.size 0 cs):=bj;clear bb bc bj a4 a5;refine hK _ _ ?_)
      |(refine pj rfl fun K hK=>?_;refine Zs (fun _ h=>by cases h) ?_;refine wp_load_mid 78 (.tmp 6) rfl wr.heap.size 0 rfl cs _ aK bq rfl ar ?_;refine hK _ _ ?_))
     refine⟨rfl,(Ke hR l').mono ?_⟩;rintro e V3 ⟨⟨s3,k3⟩,(⟨rfl,L⟩|⟨rfl,L⟩)⟩
     ·have HJ4:Hid (J (xs.map up1++pre.flatMap up2++(up2 x).take (k+1)) V3):=by
       show J _ _;rw[aF,←nk];exact L
      have k4:=kg.trans k3;have s4:V0.heap.size≤V3.heap.size:=zk;clear hy hR aK L a7 kg k3 aF;gi_wp2;go_roundw
      case rel=>exact⟨k+1,zk,by go_num,HJ4.out,s4,k4⟩
      case measure=>simp[intOf];omega
     ·have HJ4:Hid (Jx (xs.map up1++pre.flatMap up2++(up2 x).take (k+1)) V3):=by
       show Jx _ _;rw[aF,←nk];exact L
      have k4:=a0.trans (kg.trans k3);have s4:V.heap.size≤V3.heap.size:=zk;have S:ZK wC.heap.size V V3:=⟨s4,k4.2.2 _ _ zk G.df rfl,k4.2.2 _ _ zk G.lp rfl⟩;have O:qG (fun k=>k=H.heap.size∨k=H.heap.size+1) V V3:=fun k d=>by
       rcases d with rfl|rfl
       ·exact k4.2.1 _ _ _ _ lK f6
       ·exact k4.2.1 _ _ _ _ kx f7
      have aN:=(k4.2.2 D _ zk f8 rfl).trans f8;clear hy hR aK L a7 kg k3 aF;gi_wp2;exact⟨⟨S,O⟩,rfl,⟨pre,x,k+1,rfl,by have:=HN.out;omega,HJ4⟩,aN⟩
    ·obtain rfl:k=1+N:=zk;have bT: ¬(((1+N:Nat):Int)<((1+N:Nat):Int)):=zk;have bL: ¬(1+(N:Int)<1+(N:Int)):=zk;have k4:=a0.trans ae;have s4:V.heap.size≤wr.heap.size:=zk;have S:ZK wC.heap.size V wr:=⟨s4,k4.2.2 _ _ zk G.df rfl,k4.2.2 _ _ zk G.lp rfl⟩;have O:qG (fun k=>k=H.heap.size∨k=H.heap.size+1) V wr:=fun k d=>by
      rcases d with rfl|rfl
      ·exact k4.2.1 _ _ _ _ lK f6
      ·exact k4.2.1 _ _ _ _ kx f7
     have aN:=(k4.2.2 D _ zk f8 rfl).trans f8;have bx:=f3.trans k4.1;have bB:J (xs.map up1++(pre++ [x]).flatMap up2) wr:=by
      rw[pW,nX,List.flatMap_nil,nw,←nk];rw[ny (by unfold up2;rw[mO,List.length_finRange];have:=HN.out;omega)] at ak;exact ak
     have bn:=O;rw[bK] at S;clear ak ae aj ab;gi_wp2;exact⟨⟨S,O⟩,bB,g1,bx,(bn _ (Or.inl rfl)).trans f6,(bn _ (Or.inr rfl)).trans f7,aN⟩
  case done=>
   rintro D2 bJ V2 bA bC ⟨aQ,_,_,_,_,f8⟩ aa;have a8:=(zE aa);have u:D≠D2:=zk;have hz:(xs.map up1++bJ.flatMap (up2 (q:=q) (rs:=rs))).map Fin.val=List.range (BL q hs rs).length:=by
    rw[m6,ND,hS,N0,bi,←li,bC]
   gi_wp2;have an:(V2.putObj D2 (.deferred none)).heap[D]?=some (.deferred (some [])):=(World.putObj_heap_other u).trans f8;refine⟨zn,.inl ⟨_,_,rfl,oE aa,?_⟩⟩;refine⟨zn,.inl ⟨_,_,rfl,oE an,?_⟩⟩;refine⟨_,ph rfl _ _ _,⟨_,rfl⟩,.inl ⟨_,hz,?_⟩⟩;exact hJ.putObj _ (hJ.putObj _ aQ zk aa rfl) zk an rfl
  case stop=>
   rintro D2 c pre V2 bA aC ⟨rfl,⟨p,x,k,rfl,d,aQ⟩,f8⟩ aa;have a8:=(zE aa);have u:D≠D2:=zk;have bh:p.map Fin.val=List.range x.val:=by
    rw[m6,mL] at aC;have hl:(p.map Fin.val).length=p.length:=mO _;have h2:p.map Fin.val++ [x.val]=List.range (p.length+1):=aC;rw[pQ] at h2;obtain⟨h3,h4⟩:=List.append_inj h2 zn;have:x.val=p.length:=by simpa using h4
    rw[h3,this]
   have hz:(xs.map up1++p.flatMap (up2 (q:=q) (rs:=rs))++(up2 x).take k).map Fin.val=List.range (xs.map (up1 (q:=q) (hs:=hs))++p.flatMap (up2 (q:=q) (rs:=rs))++(up2 x).take k).length:=by
    have e:(xs.map up1++p.flatMap (up2 (q:=q) (rs:=rs))++(up2 x).take k).map Fin.val=List.range (pcN rs.length 26+18*x.val+k):=by
     rw[m6,m6,ND,hS,N0,bh,rD,eo,iJ x.isLt d]
    have hl:=nI List.length e;rw[mO,List.length_range] at hl;rw[e,hl]
   gi_wp2;have an:(V2.putObj D2 (.deferred none)).heap[D]?=some (.deferred (some [])):=(World.putObj_heap_other u).trans f8;refine⟨zn,.inl ⟨_,_,rfl,oE aa,?_⟩⟩;refine⟨zn,.inl ⟨_,_,rfl,oE an,?_⟩⟩;refine⟨_,ph rfl _ _ _,⟨_,rfl⟩,.inr ⟨_,hz,?_⟩⟩;exact am.putObj _ (am.putObj _ aQ zk aa rfl) zk an rfl
abbrev r9:= @Oper.semAt_none
section
variable{P:Program} {n:Nat} {md:Region.Mode} {ops:Array Oper} {Q:Exit→Act→World→Prop} {S:World→Prop}
def Zh (n:Nat) (P:Program) (md:Region.Mode) (ops:Array Oper) (Q:Exit→Act→World→Prop) (S:World→Prop):Nat→Array Bool→Act→World→Prop
 |0,listed,a,w=>Region.ready md ops listed= []∧Q .normal a w
 |fuel+1,listed,a,w=>(Region.ready md ops listed= []→Q .normal a w)∧
  ∀i∈Region.ready md ops listed,wpOpIn Fence.wide n P ops Q i (fun a' w'=>S w'∧Zh n P md ops Q S fuel (listed.setIfInBounds i true) a' w') a w
theorem Ko: ∀(fuel:Nat) (b:Array Bool) (a:Act) (w:World),Zh n P md ops Q S fuel b a w→wpAnyIn Fence.wide n P md ops Q fuel b a w
 |0,_,_,_,h=>h
 |fuel+1,_,_,_,h=>⟨h.1,fun i hi=>wpOpIn_mono (fun a' w' h'=>Ko fuel _ a' w' h'.2) (h.2 i hi)⟩
theorem YR (hi:ops[i]?=some o)(_hd: ∀c,o.op≠ .defer c)(f:YieldsIf P ops S o v a)(d:S w)(h:K (a.put o.dst v) w):wpOpIn Fence.wide n P ops Q i K a w:=by
 unfold wpOpIn;simp only[hi];rcases f with⟨b,e⟩|⟨b,rfl⟩
 ·rw[mM b];refine⟨fun _ _=>trivial,?_⟩;rw[show Fence.wide.round=none from rfl,r9,e w d];exact h
 ·rw[mN (by rw[b];simp)];exact⟨fun _ _=>trivial,h⟩
theorem fC {oj:Oper}(z:ops[j]?=some oj)(_hd: ∀c,oj.op≠ .defer c)(q:oi.apart ops oj=true)
  (s: ∀cs b,oi.op≠ .select cs b) (t: ∀cs b,oj.op≠ .select cs b)
  (p: ∀c a w,Q (.panic c) (a.put oi.dst v) w→Q (.panic c) a w)   
  (k:YieldsIf P ops S oi v a) (h:wpOpIn Fence.wide n P ops Q j K (a.put oi.dst v) w):
  wpOpIn Fence.wide n P ops Q j (fun a' w'=>YieldsIf P ops S oi v a'∧K (a'.put oi.dst v) w') a w:=by
 obtain⟨h1,h2,h3⟩:=Oper.apart_spec q
 have g: ∀(a:Act),YieldsIf P ops S oi v a→ ∀u,YieldsIf P ops S oi v (a.put oj.dst u):=fun a k u=>
  k.of_same (execOp_put oi s a oj.dst u h3) (wanted_put oi a oj.dst u h3)
 have m: ∀d,YieldsIf P ops S oi v {a with defers:=d::a.defers}:=fun d=>k.of_same rfl rfl;unfold wpOpIn at*;simp only[z] at*;rw[wanted_put oj a oi.dst v h1] at h;split
 ·rename_i y;simp only[y,if_true] at h;unfold Oper.wpIn at*;refine⟨fun _ _=>trivial,?_⟩;have h:=h.2;rw[show Fence.wide.round=none from rfl,r9,execOp_put oj t a oi.dst v h1] at h;rw[show Fence.wide.round=none from rfl,r9];generalize (execOp a.eval oj).run P w=r at*
  cases r with
  |ok x w'=>
   cases x<;>simp only[Oper.uponIn] at h⊢
   case value u=>exact⟨g a k u,by rw[←oT a v u h2];exact h⟩
   case skip=>exact⟨g a k _,by rw[←oT a v undef h2];exact h⟩
   case defer d=>
    refine⟨g _ (m d) _,?_⟩;rw[←oT _ v undef h2,←Act.put_defers];exact h
   case enter f args=>
    refine⟨h.1,CallsIn.mono h.2 fun e o i=>?_⟩
    cases e with
    |returned u=>exact⟨g a k u,by rw[←oT a v u h2];exact i⟩
    |panicked c=>exact p _ _ _ i
    |outgrown=>exact i
   case row row args=>exact⟨h.1,RowsIn.mono h.2 fun u o i=>⟨g a k u,by rw[←oT a v u h2];exact i⟩⟩
   case round l f tmps assign body=>
    refine⟨h.1,RoundIn.mono h.2 fun e o i=>?_⟩
    cases e with
    |returned u=>exact⟨g a k u,by rw[←oT a v u h2];exact i⟩
    |panicked c=>exact p _ _ _ i
    |outgrown=>exact i
  |halt x w'=>
   cases x<;>simp only[Oper.uponIn] at h⊢
   case panic u=>exact p _ _ _ h
 ·rename_i y;simp only[y] at h;exact⟨fun _ _=>trivial,g a k _,by rw[←oT a v undef h2];exact h.2⟩
theorem KE (hi:ops[i]?=some oi)(r:Zg ops=true)(g:Region.noSelect ops=true)
  (A: ∀c a w,Q (.panic c) (a.put oi.dst v) w→Q (.panic c) a w): ∀(fuel:Nat) (d:Array Bool) (a:Act) (w:World),
   (∀j l,ops[j]?=some l→j≠i→d.getD j true=false→(∀e∈l.after,Region.binds md e=true→e.on≠i)→oi.apart ops l=true)→
   i∈Region.ready md ops d→YieldsIf P ops S oi v a→S w→
   Zh n P md ops Q S fuel (d.setIfInBounds i true) (a.put oi.dst v) w→Zh n P md ops Q S (fuel+1) d a w
 |0,d,a,w,_,hr,hy,hS,H=>by
  refine⟨fun h=>absurd hr (by rw[h];simp),fun j hj=>?_⟩
  rcases Nat.decEq j i with hji|hji
  ·exact absurd (pE hj hji) (by rw[H.1];simp)
  ·subst hji;exact YR hi (qT r hi) hy hS ⟨hS,H⟩
 |fuel+1,d,a,w,hfree,hr,hy,hS,H=>by
  refine⟨fun h=>absurd hr (by rw[h];simp),fun j hj=>?_⟩
  rcases Nat.decEq j i with hji|hji
  ·obtain⟨hjun,l,hoj,hall⟩:=mem_ready.1 hj
   have f:=(mem_ready.1 hr).1
   have p: ∀e∈l.after,Region.binds md e=true→e.on≠i:=by
    intro e D C s;have h1:=hall e D C;rw[s] at h1;simp only[Array.getD_eq_getD_getElem?] at h1 f
    cases hx:d[i]? with
    |none=>rw[hx] at h1;simp at h1
    |some b=>rw[hx] at h1 f;simp at h1 f;rw[h1] at f;cases f
   have h2:=fC hoj (qT r hoj) (hfree j l hoj hji hjun p) (fun cs b=>rJ g i oi cs b hi) (fun cs b=>rJ g j l cs b hoj) A hy (H.2 j (pE hj hji))
   have x:=pE hr (Ne.symm hji)
   refine wpOpIn_mono (fun B w' h3=>?_) h2
   obtain⟨y,m,z⟩:=h3
   rw[Array.setIfInBounds_comm _ _ (Ne.symm hji)] at z
   refine⟨m,KE hi r g A fuel (d.setIfInBounds j true) B w' ?_ x y m z⟩
   intro k F E t q u
   refine hfree k F E t ?_ u
   by_cases o:j=k
   ·subst o;exact hjun
   ·rw[getD_set_ne true o] at q;exact q
  ·subst hji;exact YR hi (qT r hi) hy hS ⟨hS,H⟩
theorem bH (i:Nat)(v:Value)(hi:ops[i]?=some oi)(f:Zg ops=true)
  (hs:Region.noSelect ops=true) (e:Region.free md ops listed i=true) (g:(Region.ready md ops listed).contains i=true)
  (b: ∀c a w,Q (.panic c) (a.put oi.dst v) w→Q (.panic c) a w) (j:YieldsIf P ops S oi v a) (d:S w)
  (h:Zh n P md ops Q S fuel (listed.setIfInBounds i true) (a.put oi.dst v) w):Zh n P md ops Q S (fuel+1) listed a w:=
 KE hi f hs b fuel listed a w (Region.free_spec hi e) (by simpa using g) j d h
theorem vTk (i:Nat)(v:Value)(hi:ops[i]?=some oi)(k: ∀w,S w→(execOp a.eval oi).run P w= .ok (.value v) w)(d:S w)
  (h:Zh n P md ops Q S fuel (listed.setIfInBounds i true) (a.put oi.dst v) w) (g:Zg ops=true:=by kernel_rfl) (hs:Region.noSelect ops=true:=by kernel_rfl) (e:Region.free md ops listed i=true:=by kernel_rfl) (j:(Region.ready md ops listed).contains i=true:=by kernel_rfl) (b: ∀c a w,Q (.panic c) (a.put oi.dst v) w→Q (.panic c) a w:=by exact fun _ _ _ h=>h) (f:Region.wanted oi (yielded ops a.tmps)=true:=by kernel_rfl):Zh n P md ops Q S (fuel+1) listed a w:=
 bH i v hi g hs e j b (.inl ⟨f,k⟩) d h
theorem VY (h:o.wp P a w K Q):o.wpIn Fence.wide n P a w K Q:=by
 unfold Oper.wp at h;refine⟨fun _ _=>trivial,?_⟩;rw[show Fence.wide.round=none from rfl,r9];generalize (execOp a.eval o).run P w=r at h⊢
 cases r with
 |ok x w'=>
  cases x with
  |value v=>exact h
  |skip=>exact h
  |defer d=>exact h
  |enter f args=>exact⟨(fun h=>by cases h),callsIn_wide.2 h⟩
  |row row args=>exact⟨(fun h=>by cases h),fun c cs _=>let ⟨v,w'',r,s⟩:=h c cs;⟨v,w'',r,stepsIn_wide.2 s⟩⟩
  |_=>exact(h:False).elim
 |halt x w'=>cases x<;>first|exact h|exact(h:False).elim
theorem ZN (i:Nat)(hi:ops[i]?=some o)(_hn:Zg ops=true)(d:o.guard=none)(c:Region.ready md ops listed= [i])
  (h:o.wp P a w (fun a' w'=>S w'∧Zh n P md ops Q S fuel (listed.setIfInBounds i true) a' w') Q):Zh n P md ops Q S (fuel+1) listed a w:=by
 refine⟨fun h0=>(by rw[c] at h0;cases h0),fun j b=>?_⟩;rw[c] at b;obtain rfl:=nx.1 b;unfold wpOpIn;simp only[hi];rw[mM (by simp[Region.wanted,d])];exact VY h
theorem KF (i:Nat){l':Nat}{fn:FuncId}{tmps:Array Value}{assign body:Code}{R:Ending→World→Prop}(hi:ops[i]?=some o)(_hn:Zg ops=true)(k:o.guard=none)(c:Region.ready md ops listed= [i])
  (b:(execOp a.eval o).run P w= .ok (.round l' fn tmps assign body) w) (f:RoundIn Fence.wide 0 P l' fn tmps assign body w R)
  (h: ∀e w',R e w'→ ∃v,e= .returned v∧S w'∧Zh n P md ops Q S fuel (listed.setIfInBounds i true) (a.put o.dst v) w'):Zh n P md ops Q S (fuel+1) listed a w:=by
 refine⟨fun h0=>(by rw[c] at h0;cases h0),fun j d=>?_⟩;rw[c] at d;obtain rfl:=nx.1 d;unfold wpOpIn;simp only[hi];rw[mM (by simp[Region.wanted,k])];refine⟨fun _ _=>trivial,?_⟩;rw[show Fence.wide.round=none from rfl,r9,b];refine⟨(fun h=>by cases h),(Yd f).mono ?_⟩;intro e w' c;obtain⟨v,rfl,g⟩:=h e w' c;exact g
theorem Qd (b:Region.ready md ops listed= [])(h:Q .normal a w):Zh n P md ops Q S 0 listed a w:=⟨b,h⟩
theorem QA (S:World→Prop){id:Nat}(b:P.follows .mixedOrders=true)
  (h:Zh n P .any ops (jV Q) S ops.size (Array.replicate ops.size false) a w.drew):(Code.region id ops true).wpIn Fence.wide n P Q a w:=
 wpIn_mono (wpIn_region_any b (Ko _ _ _ _ h)) jV.imp
end
end Go.Proofs.YthdeofoleiiibaaGreatDoor
