import Derived.Test.YtacjklochmelfaaGreatDoorImplAhead
namespace Go.Proofs.YtacjklochmelfaaGreatDoor
open Go.RowKit Go.Shelf
section
variable{P:Program} {n:Nat} {md:Region.Mode} {ops:Array Oper} {Q:Exit→Act→World→Prop} {S:World→Prop}
def jw (n:Nat) (P:Program) (md:Region.Mode) (ops:Array Oper) (Q:Exit→Act→World→Prop) (S:World→Prop):Nat→Array Bool→Act→World→Prop
 |0,listed,a,w=>Region.ready md ops listed= []∧Q .normal a w
 |fuel+1,listed,a,w=>(Region.ready md ops listed= []→Q .normal a w)∧
  ∀i∈Region.ready md ops listed,wpOpIn Fence.wide n P ops Q i (fun a' w'=>S w'∧jw n P md ops Q S fuel (listed.setIfInBounds i true) a' w') a w
theorem Ya: ∀(fuel:Nat) (listed:Array Bool) (a:Act) (w:World),jw n P md ops Q S fuel listed a w→wpAnyIn Fence.wide n P md ops Q fuel listed a w
 |0,_,_,_,h=>h
 |fuel+1,_,_,_,h=>⟨h.1,fun i hi=>wpOpIn_mono (fun a' w' h'=>Ya fuel _ a' w' h'.2) (h.2 i hi)⟩
theorem XB {i:Nat}{o:Oper}{v:Value}{a:Act}(hi:ops[i]?=some o)(_hd: ∀c,o.op≠ .defer c)(hy:YieldsIf P ops S o v a){K:Act→World→Prop}{w:World}(hS:S w)(h:K (a.put o.dst v) w):wpOpIn Fence.wide n P ops Q i K a w:=by
 unfold wpOpIn;simp only[hi];rcases hy with⟨hw,hv⟩|⟨hw,rfl⟩
 ·rw[if_pos hw];refine⟨fun _ _=>trivial,?_⟩;rw[show Fence.wide.round=none from rfl,Oper.semAt_none,hv w hS];exact h
 ·rw[if_neg (by rw[hw];simp)];exact⟨fun _ _=>trivial,h⟩
theorem aaT {j:Nat}{oi oj:Oper}{v:Value}(hj:ops[j]?=some oj)(_hd: ∀c,oj.op≠ .defer c)(hap:oi.apart ops oj=true)
  (hsi: ∀cs b,oi.op≠ .select cs b) (hsj: ∀cs b,oj.op≠ .select cs b)
  (hQ: ∀c a w,Q (.panic c) (a.put oi.dst v) w→Q (.panic c) a w) {K:Act→World→Prop} {a:Act} {w:World}
  (hy:YieldsIf P ops S oi v a) (h:wpOpIn Fence.wide n P ops Q j K (a.put oi.dst v) w):
  wpOpIn Fence.wide n P ops Q j (fun a' w'=>YieldsIf P ops S oi v a'∧K (a'.put oi.dst v) w') a w:=by
 obtain⟨h1,h2,h3⟩:=Oper.apart_spec hap
 have keep: ∀(a:Act),YieldsIf P ops S oi v a→ ∀u,YieldsIf P ops S oi v (a.put oj.dst u):=fun a hy u=>
  hy.of_same (execOp_put oi hsi a oj.dst u h3) (wanted_put oi a oj.dst u h3)
 have keepD: ∀d,YieldsIf P ops S oi v {a with defers:=d::a.defers}:=fun d=>hy.of_same rfl rfl;unfold wpOpIn at*;simp only[hj] at*;rw[wanted_put oj a oi.dst v h1] at h;split
 ·rename_i hw;simp only[hw,if_true] at h;unfold Oper.wpIn at*;refine⟨fun _ _=>trivial,?_⟩;have h:=h.2;rw[show Fence.wide.round=none from rfl,Oper.semAt_none,execOp_put oj hsj a oi.dst v h1] at h;rw[show Fence.wide.round=none from rfl,Oper.semAt_none];generalize (execOp a.eval oj).run P w=r at*
  cases r with
  |ok x w'=>
   cases x<;>simp only[Oper.uponIn] at h⊢
   case value u=>exact⟨keep a hy u,by rw[←Act.put_comm a v u h2];exact h⟩
   case skip=>exact⟨keep a hy _,by rw[←Act.put_comm a v undef h2];exact h⟩
   case defer d=>
    refine⟨keep _ (keepD d) _,?_⟩;rw[←Act.put_comm _ v undef h2,←Act.put_defers];exact h
   case enter f args=>
    refine⟨h.1,CallsIn.mono h.2 fun e w'' he=>?_⟩
    cases e with
    |returned u=>exact⟨keep a hy u,by rw[←Act.put_comm a v u h2];exact he⟩
    |panicked c=>exact hQ _ _ _ he
    |outgrown=>exact he
   case row row args=>exact⟨h.1,RowsIn.mono h.2 fun u w'' he=>⟨keep a hy u,by rw[←Act.put_comm a v u h2];exact he⟩⟩
   case round l f tmps assign body=>
    refine⟨h.1,RoundIn.mono h.2 fun e w'' he=>?_⟩
    cases e with
    |returned u=>exact⟨keep a hy u,by rw[←Act.put_comm a v u h2];exact he⟩
    |panicked c=>exact hQ _ _ _ he
    |outgrown=>exact he
  |halt x w'=>
   cases x<;>simp only[Oper.uponIn] at h⊢
   case panic u=>exact hQ _ _ _ h
 ·rename_i hw;simp only[hw] at h;exact⟨fun _ _=>trivial,keep a hy _,by rw[←Act.put_comm a v undef h2];exact h.2⟩
theorem Yn {i:Nat}{oi:Oper}{v:Value}(hi:ops[i]?=some oi)(hn:jS ops=true)(hsel:Region.noSelect ops=true)
  (hQ: ∀c a w,Q (.panic c) (a.put oi.dst v) w→Q (.panic c) a w): ∀(fuel:Nat) (listed:Array Bool) (a:Act) (w:World),
   (∀j oj,ops[j]?=some oj→j≠i→listed.getD j true=false→(∀e∈oj.after,Region.binds md e=true→e.on≠i)→oi.apart ops oj=true)→
   i∈Region.ready md ops listed→YieldsIf P ops S oi v a→S w→
   jw n P md ops Q S fuel (listed.setIfInBounds i true) (a.put oi.dst v) w→jw n P md ops Q S (fuel+1) listed a w
 |0,listed,a,w,_,hr,hy,hS,H=>by
  refine⟨fun h=>absurd hr (by rw[h];simp),fun j hj=>?_⟩
  rcases Nat.decEq j i with hji|hji
  ·exact absurd (ready_mono hj hji) (by rw[H.1];simp)
  ·subst hji;exact XB hi (qu hn hi) hy hS ⟨hS,H⟩
 |fuel+1,listed,a,w,hfree,hr,hy,hS,H=>by
  refine⟨fun h=>absurd hr (by rw[h];simp),fun j hj=>?_⟩
  rcases Nat.decEq j i with hji|hji
  ·obtain⟨hjun,oj,hoj,hall⟩:=mem_ready.1 hj
   have hi0:=(mem_ready.1 hr).1
   have hnot: ∀e∈oj.after,Region.binds md e=true→e.on≠i:=by
    intro e he hb heq;have h1:=hall e he hb;rw[heq] at h1;simp only[Array.getD_eq_getD_getElem?] at h1 hi0
    cases hx:listed[i]? with
    |none=>rw[hx] at h1;simp at h1
    |some b=>rw[hx] at h1 hi0;simp at h1 hi0;rw[h1] at hi0;cases hi0
   have h2:=aaT hoj (qu hn hoj) (hfree j oj hoj hji hjun hnot) (fun cs b=>Region.noSelect_spec hsel i oi cs b hi) (fun cs b=>Region.noSelect_spec hsel j oj cs b hoj) hQ hy (H.2 j (ready_mono hj hji))
   have hri:=ready_mono hr (Ne.symm hji)
   refine wpOpIn_mono (fun a' w' h3=>?_) h2
   obtain⟨hy',hS',H'⟩:=h3
   rw[Array.setIfInBounds_comm _ _ (Ne.symm hji)] at H'
   refine⟨hS',Yn hi hn hsel hQ fuel (listed.setIfInBounds j true) a' w' ?_ hri hy' hS' H'⟩
   intro k ok hk hki hun hno
   refine hfree k ok hk hki ?_ hno
   by_cases hjk:j=k
   ·subst hjk;exact hjun
   ·rw[getD_set_ne true hjk] at hun;exact hun
  ·subst hji;exact XB hi (qu hn hi) hy hS ⟨hS,H⟩
theorem E9 (i:Nat){oi:Oper}(v:Value){fuel:Nat}{listed:Array Bool}{a:Act}{w:World}(hi:ops[i]?=some oi)(hn:jS ops=true)
  (hs:Region.noSelect ops=true) (hf:Region.free md ops listed i=true) (hr:(Region.ready md ops listed).contains i=true)
  (hQ: ∀c a w,Q (.panic c) (a.put oi.dst v) w→Q (.panic c) a w) (hy:YieldsIf P ops S oi v a) (hS:S w)
  (h:jw n P md ops Q S fuel (listed.setIfInBounds i true) (a.put oi.dst v) w):jw n P md ops Q S (fuel+1) listed a w:=
 Yn hi hn hs hQ fuel listed a w (Region.free_spec hi hf) (by simpa using hr) hy hS h
theorem vTk (i:Nat){oi:Oper}(v:Value){fuel:Nat}{listed:Array Bool}{a:Act}{w:World}(hi:ops[i]?=some oi)(hy: ∀w,S w→(execOp a.eval oi).run P w= .ok (.value v) w)(hS:S w)
  (h:jw n P md ops Q S fuel (listed.setIfInBounds i true) (a.put oi.dst v) w) (hn:jS ops=true:=by kernel_rfl) (hs:Region.noSelect ops=true:=by kernel_rfl) (hf:Region.free md ops listed i=true:=by kernel_rfl) (hr:(Region.ready md ops listed).contains i=true:=by kernel_rfl) (hQ: ∀c a w,Q (.panic c) (a.put oi.dst v) w→Q (.panic c) a w:=by exact fun _ _ _ h=>h) (hg:Region.wanted oi (yielded ops a.tmps)=true:=by kernel_rfl):jw n P md ops Q S (fuel+1) listed a w:=
 E9 i v hi hn hs hf hr hQ (.inl ⟨hg,hy⟩) hS h
theorem KF {o:Oper}{a:Act}{w:World}{K:Act→World→Prop}(h:o.wp P a w K Q):o.wpIn Fence.wide n P a w K Q:=by
 unfold Oper.wp at h;refine⟨fun _ _=>trivial,?_⟩;rw[show Fence.wide.round=none from rfl,Oper.semAt_none];generalize (execOp a.eval o).run P w=r at h⊢
 cases r with
 |ok x w'=>
  cases x with
  |value v=>exact h
  |skip=>exact h
  |defer d=>exact h
  |enter f args=>exact⟨(fun h=>by cases h),callsIn_wide.2 h⟩
  |row row args=>exact⟨(fun h=>by cases h),fun c cs _=>let ⟨v,w'',r,s⟩:=h c cs;⟨v,w'',r,stepsIn_wide.2 s⟩⟩
  |_=>exact(h:False).elim
 |halt x w'=>cases x<;>first|exact h|exact(h:False).elim
theorem j4 (i:Nat){o:Oper}{fuel:Nat}{listed:Array Bool}{a:Act}{w:World}(hi:ops[i]?=some o)(_hn:jS ops=true)(hw:o.guard=none)(hr:Region.ready md ops listed= [i])
  (h:o.wp P a w (fun a' w'=>S w'∧jw n P md ops Q S fuel (listed.setIfInBounds i true) a' w') Q):jw n P md ops Q S (fuel+1) listed a w:=by
 refine⟨fun h0=>(by rw[hr] at h0;cases h0),fun j hj=>?_⟩;rw[hr] at hj;obtain rfl:=List.mem_singleton.1 hj;unfold wpOpIn;simp only[hi];rw[if_pos (by simp[Region.wanted,hw])];exact KF h
theorem Yo (i:Nat){o:Oper}{fuel:Nat}{listed:Array Bool}{a:Act}{w:World}{l':Nat}{fn:FuncId}{tmps:Array Value}{assign body:Code}{R:Ending→World→Prop}(hi:ops[i]?=some o)(_hn:jS ops=true)(hw:o.guard=none)(hr:Region.ready md ops listed= [i])
  (hrun:(execOp a.eval o).run P w= .ok (.round l' fn tmps assign body) w) (hR:RoundIn Fence.wide 0 P l' fn tmps assign body w R)
  (h: ∀e w',R e w'→ ∃v,e= .returned v∧S w'∧jw n P md ops Q S fuel (listed.setIfInBounds i true) (a.put o.dst v) w'):jw n P md ops Q S (fuel+1) listed a w:=by
 refine⟨fun h0=>(by rw[hr] at h0;cases h0),fun j hj=>?_⟩;rw[hr] at hj;obtain rfl:=List.mem_singleton.1 hj;unfold wpOpIn;simp only[hi];rw[if_pos (by simp[Region.wanted,hw])];refine⟨fun _ _=>trivial,?_⟩;rw[show Fence.wide.round=none from rfl,Oper.semAt_none,hrun];refine⟨(fun h=>by cases h),(J1 hR).mono ?_⟩;intro e w' hr;obtain⟨v,rfl,hk⟩:=h e w' hr;exact hk
theorem Zo {listed:Array Bool}{a:Act}{w:World}(hr:Region.ready md ops listed= [])(h:Q .normal a w):jw n P md ops Q S 0 listed a w:=⟨hr,h⟩
theorem ZL (S:World→Prop){id:Nat}{a:Act}{w:World}(hm:P.follows .mixedOrders=true)
  (h:jw n P .any ops (jh Q) S ops.size (Array.replicate ops.size false) a w.drew):(Code.region id ops true).wpIn Fence.wide n P Q a w:=
 wpIn_mono (wpIn_region_any hm (Ya _ _ _ _ h)) jh.imp
end
end Go.Proofs.YtacjklochmelfaaGreatDoor
