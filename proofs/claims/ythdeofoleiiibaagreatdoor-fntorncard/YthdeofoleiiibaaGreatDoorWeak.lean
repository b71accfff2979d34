import Derived.OrdersHeld
import Derived.Deep.RegionHeld3
import Derived.StillTail
namespace Go.Proofs.YthdeofoleiiibaaGreatDoor
variable {a:Act}{w:World}{listed:Array Bool}{fuel:Nat}{oi o:Oper}
section
variable{P:Program} {md:Region.Mode} {ops:Array Oper} {Q:Exit→Act→World→Prop} {S:World→Prop} {z:Nat}
def jU (P:Program) (md:Region.Mode) (ops:Array Oper) (Q:Exit→Act→World→Prop) (S:World→Prop) (z:Nat):Nat→Array Bool→Act→World→Prop
 |0,listed,a,w=>Region.ready md ops listed= []∧Q .normal a w
 |fuel+1,listed,a,w=>(Region.ready md ops listed= []→Q .normal a w)∧
  ∀i∈Region.ready md ops listed,wpOp P ops Q i (fun a' w'=>(i≠z→S w')∧jU P md ops Q S z fuel (listed.setIfInBounds i true) a' w') a w
theorem XU: ∀(fuel:Nat) (b:Array Bool) (a:Act) (w:World),jU P md ops Q S z fuel b a w→wpAny P md ops Q fuel b a w
 |0,_,_,_,h=>h
 |fuel+1,_,_,_,h=>⟨h.1,fun i hi=>wpOp_mono (fun a' w' h'=>XU fuel _ a' w' h'.2) (h.2 i hi)⟩
theorem Uw {i:Nat}{v:Value}(hi:ops[i]?=some oi)(g:Region.noSelect ops=true)(B:Region.waitsFor md ops z i=true)
  (A: ∀c a w,Q (.panic c) (a.put oi.dst v) w→Q (.panic c) a w): ∀(fuel:Nat) (d:Array Bool) (a:Act) (w:World),
   (∀j m,ops[j]?=some m→j≠i→d.getD j true=false→(∀e∈m.after,Region.binds md e=true→e.on≠i)→oi.apart ops m=true)→
   i∈Region.ready md ops d→YieldsIf P ops S oi v a→S w→
   jU P md ops Q S z fuel (d.setIfInBounds i true) (a.put oi.dst v) w→jU P md ops Q S z (fuel+1) d a w
 |0,d,a,w,_,hr,hy,hS,H=>by
  refine⟨fun h=>absurd hr (by rw[h];simp),fun j hj=>?_⟩
  rcases Nat.decEq j i with hji|hji
  ·exact absurd (ready_mono hj hji) (by rw[H.1];simp)
  ·subst hji;exact hy.wpOp hi hS ⟨fun _=>hS,H⟩
 |fuel+1,d,a,w,hfree,hr,hy,hS,H=>by
  refine⟨fun h=>absurd hr (by rw[h];simp),fun j hj=>?_⟩
  rcases Nat.decEq j i with hji|hji
  ·obtain⟨hjun,m,hoj,hall⟩:=mem_ready.1 hj
   have f:=(mem_ready.1 hr).1
   have l: ∀e∈m.after,Region.binds md e=true→e.on≠i:=by
    intro e G F r;have h1:=hall e G F;rw[r] at h1;simp only[Array.getD_eq_getD_getElem?] at h1 f
    cases hx:d[i]? with
    |none=>rw[hx] at h1;simp at h1
    |some b=>rw[hx] at h1 f;simp at h1 f;rw[h1] at f;cases f
   have h2:=wpOp_putIf hoj (hfree j m hoj hji hjun l) (fun cs b=>Region.noSelect_spec g i oi cs b hi) (fun cs b=>Region.noSelect_spec g j m cs b hoj) A hy (H.2 j (ready_mono hj hji))
   have u:=ready_mono hr (Ne.symm hji)
   refine wpOp_mono (fun C w' h3=>?_) h2
   obtain⟨x,q,y⟩:=h3
   rw[Array.setIfInBounds_comm _ _ (Ne.symm hji)] at y
   have n:S w':=q (by
    intro e
    obtain⟨K,h1,D,h2,h3,E⟩:=Region.waitsFor_spec B
    rw[←e,hoj] at h1
    cases h1
    exact l D h2 h3 E)
   refine⟨fun _=>n,Uw hi g B A fuel (d.setIfInBounds j true) C w' ?_ u x n y⟩
   intro k J I s p t
   refine hfree k J I s ?_ t
   by_cases o:j=k
   ·subst o;exact hjun
   ·rw[getD_set_ne true o] at p;exact p
  ·subst hji;exact hy.wpOp hi hS ⟨fun _=>hS,H⟩
theorem ZP (i:Nat)(v:Value)(hi:ops[i]?=some oi)
  (hs:Region.noSelect ops=true) (j:Region.waitsFor md ops z i=true) (e:Region.free md ops listed i=true) (f:(Region.ready md ops listed).contains i=true)
  (b: ∀c a w,Q (.panic c) (a.put oi.dst v) w→Q (.panic c) a w) (g:YieldsIf P ops S oi v a) (d:S w)
  (h:jU P md ops Q S z fuel (listed.setIfInBounds i true) (a.put oi.dst v) w):jU P md ops Q S z (fuel+1) listed a w:=
 Uw hi hs j b fuel listed a w (Region.free_spec hi e) (by simpa using f) g d h
theorem wSk (i:Nat)(hi:ops[i]?=some oi)(d:S w)
  (h:jU P md ops Q S z fuel (listed.setIfInBounds i true) (a.put oi.dst undef) w) (hs:Region.noSelect ops=true:=by kernel_rfl) (j:Region.waitsFor md ops z i=true:=by kernel_rfl) (e:Region.free md ops listed i=true:=by kernel_rfl) (g:(Region.ready md ops listed).contains i=true:=by kernel_rfl) (b: ∀c a w,Q (.panic c) (a.put oi.dst undef) w→Q (.panic c) a w:=by exact fun _ _ _ h=>h) (f:Region.wanted oi (yielded ops a.tmps)=false:=by kernel_rfl):jU P md ops Q S z (fuel+1) listed a w:=
 ZP i undef hi hs j e g b (.inr ⟨f,rfl⟩) d h
theorem wTk (i:Nat)(v:Value)(hi:ops[i]?=some oi)(j: ∀w,S w→(execOp a.eval oi).run P w= .ok (.value v) w)(d:S w)
  (h:jU P md ops Q S z fuel (listed.setIfInBounds i true) (a.put oi.dst v) w) (hs:Region.noSelect ops=true:=by kernel_rfl) (k:Region.waitsFor md ops z i=true:=by kernel_rfl) (e:Region.free md ops listed i=true:=by kernel_rfl) (g:(Region.ready md ops listed).contains i=true:=by kernel_rfl) (b: ∀c a w,Q (.panic c) (a.put oi.dst v) w→Q (.panic c) a w:=by exact fun _ _ _ h=>h) (f:Region.wanted oi (yielded ops a.tmps)=true:=by kernel_rfl):jU P md ops Q S z (fuel+1) listed a w:=
 ZP i v hi hs k e g b (.inl ⟨f,j⟩) d h
theorem wT2 (i:Nat)(v:Value)(hi:ops[i]?=some oi)
  (h:jU P md ops Q S z fuel (listed.setIfInBounds i true) (a.put oi.dst v) w) (b: ∀w,S w→(execOp a.eval oi).run P w= .ok (.value v) w:=by exact fun w' hw'=>by go_simp) (hS:S w:=by exact HS.out) (hs:Region.noSelect ops=true:=by kernel_rfl) (hz:Region.waitsFor md ops z i=true:=by kernel_rfl) (hf:Region.free md ops listed i=true:=by kernel_rfl) (hr:(Region.ready md ops listed).contains i=true:=by kernel_rfl) (hQ: ∀c a w,Q (.panic c) (a.put oi.dst v) w→Q (.panic c) a w:=by exact fun _ _ _ h=>h) (hg:Region.wanted oi (yielded ops a.tmps)=true:=by kernel_rfl):jU P md ops Q S z (fuel+1) listed a w:=
 ZP i v hi hs hz hf hr hQ (.inl ⟨hg,b⟩) hS h
theorem kC (i:Nat)(hi:ops[i]?=some o)(d:o.guard=none)(c:Region.ready md ops listed= [i])
  (h:o.wp P a w (fun a' w'=>(i≠z→S w')∧jU P md ops Q S z fuel (listed.setIfInBounds i true) a' w') Q):jU P md ops Q S z (fuel+1) listed a w:=by
 refine⟨fun h0=>(by rw[c] at h0;cases h0),fun j b=>?_⟩;rw[c] at b;obtain rfl:=List.mem_singleton.1 b;unfold wpOp;simp only[hi];rw[if_pos (by simp[Region.wanted,d])];exact .inl h
theorem wOn (i:Nat)(hi:ops[i]?=some o)
  (h:o.wp P a w (fun a' w'=>(i≠z→S w')∧jU P md ops Q S z fuel (listed.setIfInBounds i true) a' w') Q) (c:o.guard=none:=by rfl) (b:Region.ready md ops listed= [i]:=by kernel_rfl):jU P md ops Q S z (fuel+1) listed a w:=
 kC i hi c b h
theorem gk (b:Region.ready md ops listed= [])(h:Q .normal a w):jU P md ops Q S z 0 listed a w:=⟨b,h⟩
theorem wDn (h:Q .normal a w)(b:Region.ready md ops listed= []:=by kernel_rfl):jU P md ops (NoPanic Q) S z 0 listed a w:=gk b (NoPanic.normal h)
theorem aQ (z:Nat)(S:World→Prop){id:Nat}(b:P.follows .mixedOrders=true)
  (h:jU P .any ops (NoPanic Q) S z ops.size (Array.replicate ops.size false) a w.drew):(Code.region id ops true).wp P Q a w:=
 wp_region_noPanic (wp_region_any b (XU _ _ _ _ h))
theorem wRg (z:Nat)(S:World→Prop){id:Nat}
  (h:jU P .any ops (NoPanic Q) S z ops.size (Array.replicate ops.size false) a w.drew) (b:P.follows .mixedOrders=true:=by kernel_rfl):(Code.region id ops true).wp P Q a w:=
 aQ z S b h
end
theorem jb {P:Program}{w':World}{K:Act→World→Prop}{Q:Exit→Act→World→Prop}{v:Value}(b:(execOp a.eval o).run P w= .ok (.value v) w')(h:K (a.put o.dst v) w'):o.wp P a w K Q:=by
 unfold Oper.wp;rw[b];exact h
theorem zv {P:Program}{K:Act→World→Prop}{Q:Exit→Act→World→Prop}(f:FuncId)(args:Array Value)(b:(execOp a.eval o).run P w= .ok (.enter f args) w)
  {R:Ending→World→Prop} (d:Calls P f args w R) (h: ∀e w',R e w'→ ∃v,e= .returned v∧K (a.put o.dst v) w'):o.wp P a w K Q:=by
 unfold Oper.wp;rw[b,Oper.upon_enter];refine d.mono fun e w' c=>?_;obtain⟨v,rfl,hK⟩:=h e w' c;exact hK
end Go.Proofs.YthdeofoleiiibaaGreatDoor
