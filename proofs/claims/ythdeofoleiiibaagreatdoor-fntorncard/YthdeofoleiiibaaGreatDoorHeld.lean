import Derived.OrdersHeld
import Derived.Deep.RegionHeld3
namespace Go.Proofs.YthdeofoleiiibaaGreatDoor
variable {a:Act}{w:World}{listed:Array Bool}{fuel:Nat}{oi o:Oper}
abbrev nx:= @List.mem_singleton
section
variable{P:Program} {md:Region.Mode} {ops:Array Oper} {Q:Exit→Act→World→Prop} {S:World→Prop}
theorem js (S:World→Prop){id:Nat}(b:P.follows .mixedOrders=true)
  (h:wpAnyH P .any ops (NoPanic Q) S ops.size (Array.replicate ops.size false) a w.drew):(Code.region id ops true).wp P Q a w:=
 wp_region_noPanic (wp_region_any b (wpAny_of_held _ _ _ _ h))
theorem hRg (S:World→Prop){id:Nat}
  (h:wpAnyH P .any ops (NoPanic Q) S ops.size (Array.replicate ops.size false) a w.drew) (b:P.follows .mixedOrders=true:=by kernel_rfl):(Code.region id ops true).wp P Q a w:=
 js S b h
theorem zI (i:Nat)(v:Value)(hi:ops[i]?=some oi)
  (hs:Region.noSelect ops=true) (e:Region.free md ops listed i=true) (f:(Region.ready md ops listed).contains i=true)
  (b: ∀c a w,Q (.panic c) (a.put oi.dst v) w→Q (.panic c) a w) (g:YieldsIf P ops S oi v a) (d:S w)
  (h:wpAnyH P md ops Q S fuel (listed.setIfInBounds i true) (a.put oi.dst v) w):wpAnyH P md ops Q S (fuel+1) listed a w:=
 wpAnyH_take hi hs e f b g d h
theorem hSk (i:Nat)(hi:ops[i]?=some oi)(d:S w)
  (h:wpAnyH P md ops Q S fuel (listed.setIfInBounds i true) (a.put oi.dst undef) w) (hs:Region.noSelect ops=true:=by kernel_rfl) (e:Region.free md ops listed i=true:=by kernel_rfl) (g:(Region.ready md ops listed).contains i=true:=by kernel_rfl) (b: ∀c a w,Q (.panic c) (a.put oi.dst undef) w→Q (.panic c) a w:=by exact fun _ _ _ h=>h) (f:Region.wanted oi (yielded ops a.tmps)=false:=by kernel_rfl):wpAnyH P md ops Q S (fuel+1) listed a w:=
 zI i undef hi hs e g b (.inr ⟨f,rfl⟩) d h
theorem hTk (i:Nat)(v:Value)(hi:ops[i]?=some oi)(j: ∀w,S w→(execOp a.eval oi).run P w= .ok (.value v) w)(d:S w)
  (h:wpAnyH P md ops Q S fuel (listed.setIfInBounds i true) (a.put oi.dst v) w) (hs:Region.noSelect ops=true:=by kernel_rfl) (e:Region.free md ops listed i=true:=by kernel_rfl) (g:(Region.ready md ops listed).contains i=true:=by kernel_rfl) (b: ∀c a w,Q (.panic c) (a.put oi.dst v) w→Q (.panic c) a w:=by exact fun _ _ _ h=>h) (f:Region.wanted oi (yielded ops a.tmps)=true:=by kernel_rfl):wpAnyH P md ops Q S (fuel+1) listed a w:=
 zI i v hi hs e g b (.inl ⟨f,j⟩) d h
theorem hT2 (i:Nat)(v:Value)(hi:ops[i]?=some oi)
  (h:wpAnyH P md ops Q S fuel (listed.setIfInBounds i true) (a.put oi.dst v) w) (b: ∀w,S w→(execOp a.eval oi).run P w= .ok (.value v) w:=by exact fun w' hw'=>by go_simp) (hS:S w:=by exact HS.out) (hs:Region.noSelect ops=true:=by kernel_rfl) (hf:Region.free md ops listed i=true:=by kernel_rfl) (hr:(Region.ready md ops listed).contains i=true:=by kernel_rfl) (hQ: ∀c a w,Q (.panic c) (a.put oi.dst v) w→Q (.panic c) a w:=by exact fun _ _ _ h=>h) (hg:Region.wanted oi (yielded ops a.tmps)=true:=by kernel_rfl):wpAnyH P md ops Q S (fuel+1) listed a w:=
 zI i v hi hs hf hr hQ (.inl ⟨hg,b⟩) hS h
theorem iu (i:Nat)(hi:ops[i]?=some o)(d:o.guard=none)(c:Region.ready md ops listed= [i])
  (h:o.wp P a w (fun a' w'=>S w'∧wpAnyH P md ops Q S fuel (listed.setIfInBounds i true) a' w') Q):wpAnyH P md ops Q S (fuel+1) listed a w:=by
 refine⟨fun h0=>(by rw[c] at h0;cases h0),fun j b=>?_⟩;rw[c] at b;obtain rfl:=nx.1 b;unfold wpOp;simp only[hi];rw[if_pos (by simp[Region.wanted,d])];exact .inl h
theorem hOn (i:Nat)(hi:ops[i]?=some o)
  (h:o.wp P a w (fun a' w'=>S w'∧wpAnyH P md ops Q S fuel (listed.setIfInBounds i true) a' w') Q) (c:o.guard=none:=by rfl) (b:Region.ready md ops listed= [i]:=by kernel_rfl):wpAnyH P md ops Q S (fuel+1) listed a w:=
 iu i hi c b h
theorem qY (i j:Nat){o':Oper}(hi:ops[i]?=some o)(g:o.guard=none)(f:ops[j]?=some o')(c:o'.guard=none)(d:Region.ready md ops listed= [i,j])
  (h:o.wp P a w (fun a' w'=>S w'∧wpAnyH P md ops Q S fuel (listed.setIfInBounds i true) a' w') Q)
  (e:o'.wp P a w (fun a' w'=>S w'∧wpAnyH P md ops Q S fuel (listed.setIfInBounds j true) a' w') Q):wpAnyH P md ops Q S (fuel+1) listed a w:=by
 refine⟨fun h0=>(by rw[d] at h0;cases h0),fun k b=>?_⟩;rw[d] at b;simp only[List.mem_cons,List.not_mem_nil,or_false] at b;rcases b with rfl|rfl
 ·unfold wpOp;simp only[hi];rw[if_pos (by simp[Region.wanted,g])];exact .inl h
 ·unfold wpOp;simp only[f];rw[if_pos (by simp[Region.wanted,c])];exact .inl e
theorem fm (b:Region.ready md ops listed= [])(h:Q .normal a w):wpAnyH P md ops Q S 0 listed a w:=⟨b,h⟩
theorem hDn (h:Q .normal a w)(b:Region.ready md ops listed= []:=by kernel_rfl):wpAnyH P md ops (NoPanic Q) S 0 listed a w:=fm b (NoPanic.normal h)
end
section
variable{P:Program} {md:Region.Mode} {ops:Array Oper} {Q:Exit→Act→World→Prop} {S:World→Prop}
theorem Jj (i:Nat)(hi:ops[i]?=some o)(d:Region.wanted o (yielded ops a.tmps)=true)(c:Region.ready md ops listed= [i])
  (h:o.wp P a w (fun a' w'=>S w'∧wpAnyH P md ops Q S fuel (listed.setIfInBounds i true) a' w') Q):wpAnyH P md ops Q S (fuel+1) listed a w:=by
 refine⟨fun h0=>(by rw[c] at h0;cases h0),fun j b=>?_⟩;rw[c] at b;obtain rfl:=nx.1 b;unfold wpOp;simp only[hi];rw[if_pos d];exact .inl h
end
end Go.Proofs.YthdeofoleiiibaaGreatDoor
