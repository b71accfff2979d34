import Derived.WalkKit
import Derived.Deep.QuietTactic
import Derived.BigQuiet
import Derived.Laws.CopyOwn
import Derived.Test.YtacjklochmelfaaGreatDoorRows
import Derived.Deep.RegionWith
import Derived.Laws.AppendOwnNone
import Derived.Deep.DeepCutAuto
import Derived.Deep.MidRow
namespace Go.Proofs.YtacjklochmelfaaGreatDoor
open Go.RowKit
set_option maxRecDepth 100000
set_option maxHeartbeats 16000000
structure qC (w w':World):Prop where
 heap:w'.heap=w.heap
 os:w'.os=w.os
 tape:w'.tape=w.tape
 output:w'.output=w.output
abbrev ze (w:World) (b:Nat) (cs:Array Value) (t:TypeId):Prop:=w.heap[b]?=some (.cells cs t (0,0))
abbrev za (x:Int):Value:= .int .i64 x
abbrev zb (x:Int):Value:= .int .u8 x
abbrev zc:Value:= .slice none 0 0
abbrev zd (b:Nat):Addr:=⟨b,0,none⟩
theorem gLt {α:Type}{xs:Array α}{i:Nat}{x:α}(h:xs[i]?=some x):i<xs.size:=(Array.getElem?_eq_some_iff.1 h).1
theorem qC.refl (w:World):qC w w:=⟨rfl,rfl,rfl,rfl⟩
theorem qC.trans {a b c:World}(h:qC a b)(k:qC b c):qC a c:=⟨k.heap.trans h.heap,k.os.trans h.os,k.tape.trans h.tape,k.output.trans h.output⟩
theorem qC.drewN {a b:World}(h:qC a b)(n:Nat):qC a (b.drewN n):=⟨h.heap,h.os,h.tape,h.output⟩
theorem qC.drew {a b:World}(h:qC a b):qC a b.drew:=⟨h.heap,h.os,h.tape,h.output⟩
theorem qC.cell {a b:World}(h:qC a b)(p:Addr):b.cell? p=a.cell? p:=World.cell?_of_block (by rw[h.heap])
structure Chg (lo hi:Nat)(w w':World):Prop where
 os:w'.os=w.os
 tape:w'.tape=w.tape
 output:w'.output=w.output
 size:w.heap.size≤w'.heap.size
 block: ∀k,k<w.heap.size→k<lo∨hi≤k→w'.heap[k]?=w.heap[k]?
theorem Chg.refl (lo hi:Nat)(w:World):Chg lo hi w w:=⟨rfl,rfl,rfl,Nat.le_refl _,fun _ _ _=>rfl⟩
theorem Chg.trans {lo hi:Nat}{a b c:World}(h:Chg lo hi a b)(k:Chg lo hi b c):Chg lo hi a c:=
 ⟨k.os.trans h.os,k.tape.trans h.tape,k.output.trans h.output,Nat.le_trans h.size k.size,fun i hi ho=>(k.block i (Nat.lt_of_lt_of_le hi h.size) ho).trans (h.block i hi ho)⟩
theorem qC.chg {w w':World}(h:qC w w')(lo hi:Nat):Chg lo hi w w':=⟨h.os,h.tape,h.output,by rw[h.heap];exact Nat.le_refl _,fun _ _ _=>by rw[h.heap]⟩
theorem Chg.widen {lo hi lo' hi':Nat}{w w':World}(h:Chg lo hi w w')(a:lo'≤lo∨hi≤lo)(b:hi≤hi'∨hi≤lo):Chg lo' hi' w w':=
 ⟨h.os,h.tape,h.output,h.size,fun k hk ho=>h.block k hk (by omega)⟩
theorem Chg.alloc {lo hi:Nat}{a w:World}(h:Chg lo hi a w)(o:Obj):Chg lo hi a (w.alloc o):=
 h.trans ⟨rfl,rfl,rfl,by simp,fun k hk _=>Below.heap_alloc _ _ _ hk⟩
theorem Chg.setCell {lo hi:Nat}{a w:World}(h:Chg lo hi a w){p:Addr}(hp:(lo≤p.block∧p.block<hi)∨a.heap.size≤p.block)(u:Value):Chg lo hi a (w.setCell p u):=
 ⟨h.os,h.tape,h.output,by simpa [World.setCell] using h.size,fun k hk ho=>(Below.heap_setCell _ _ _ _ (by omega)).trans (h.block k hk ho)⟩
theorem Chg.drew {lo hi:Nat}{a w:World}(h:Chg lo hi a w):Chg lo hi a w.drew:=⟨h.os,h.tape,h.output,h.size,h.block⟩
theorem Chg.drewN {lo hi:Nat}{a w:World}(h:Chg lo hi a w)(n:Nat):Chg lo hi a (w.drewN n):=⟨h.os,h.tape,h.output,h.size,h.block⟩
theorem Chg.below {lo hi:Nat}{w w':World}(h:Chg lo hi w w')(e:hi≤lo∨w.heap.size≤lo):Below w.heap.size w w':=⟨h.os,h.tape,h.output,h.size,fun k hk=>h.block k hk (by omega)⟩
theorem Chg.ofBelow {w w':World}(h:Below w.heap.size w w')(lo hi:Nat):Chg lo hi w w':=⟨h.os,h.tape,h.output,h.size,fun k hk _=>h.block k hk⟩
theorem Chg.ofGrown {lo hi:Nat}{w w':World}{row:Option Nat}(h:w.grownBy w' row)(hr: ∀k,row=some k→k<w.heap.size→lo≤k∧k<hi):Chg lo hi w w':=
 ⟨h.os,h.tape,h.output,h.size,fun k hk ho=>h.block k hk (fun e=>by have:=hr k e.symm hk;omega)⟩
theorem Chg.step {lo hi l r:Nat}{a b c:World}(h:Chg lo hi a b)(k:Chg l r b c)(hk:(lo≤l∧r≤hi)∨a.heap.size≤l∨r≤l):Chg lo hi a c:=
 ⟨k.os.trans h.os,k.tape.trans h.tape,k.output.trans h.output,Nat.le_trans h.size k.size,fun i hi' ho=>(k.block i (Nat.lt_of_lt_of_le hi' h.size) (by omega)).trans (h.block i hi' ho)⟩
theorem zF {w:World}{b o:Nat}{x:Value}(h:w.cell? ⟨b,o,none⟩=some x):b<w.heap.size:=by
 rcases Nat.lt_or_ge b w.heap.size with h'|h'
 ·exact h'
 ·rw[World.cell?,Array.getElem?_eq_none h'] at h;cases h
theorem Chg.cell {lo hi:Nat}{w w':World}(h:Chg lo hi w w'){b o:Nat}{x:Value}(hc:w.cell? ⟨b,o,none⟩=some x)(ho:b<lo∨hi≤b):w'.cell? ⟨b,o,none⟩=some x:=
 (World.cell?_of_block (a:=⟨b,o,none⟩) (h.block b (zF hc) ho)).trans hc
theorem Chg.set2 (w:World)(s:Nat)(a b:Value):Chg s (s+1) w ((w.setCell ⟨s,0,none⟩ a).setCell ⟨s,1,none⟩ b):=
 Chg.setCell (Chg.setCell (Chg.refl _ _ _) (p:=⟨s,0,none⟩) (Or.inl ⟨Nat.le_refl _,Nat.lt_succ_self _⟩) a) (p:=⟨s,1,none⟩) (Or.inl ⟨Nat.le_refl _,Nat.lt_succ_self _⟩) b
theorem zn {w:World}{s:Nat}{a b:Value}{t:TypeId}(h:w.heap[s]?=some (.cells #[a,b] t (0,0))):
  w.cell? ⟨s,0,none⟩=some a∧w.cell? ⟨s,1,none⟩=some b∧w.frozen? ⟨s,0,none⟩=false∧w.frozen? ⟨s,1,none⟩=false:=by
 simp[World.cell?,World.frozen?,h]
theorem zh (w:World)(o:Obj):(w.alloc o).heap[w.heap.size]?=some o:=by
 show(w.heap.push o)[w.heap.size]?=_;simp
theorem QW (w:World)(o1 o2 o3:Obj):(((w.alloc o1).alloc o2).alloc o3).heap.size=w.heap.size+3∧(((w.alloc o1).alloc o2).alloc o3).heap[w.heap.size]?=some o1∧
  (((w.alloc o1).alloc o2).alloc o3).heap[w.heap.size+1]?=some o2∧(((w.alloc o1).alloc o2).alloc o3).heap[w.heap.size+1+1]?=some o3:=by
 have e1:(w.alloc o1).heap.size=w.heap.size+1:=by simp
 have e2:((w.alloc o1).alloc o2).heap.size=w.heap.size+1+1:=by simp
 refine⟨by simp,?_,?_,?_⟩
 ·rw[Below.heap_alloc _ _ _ (by omega),Below.heap_alloc _ _ _ (by omega)];exact zh _ _
 ·rw[Below.heap_alloc _ _ _ (by omega),←e1];exact zh _ _
 ·rw[←e2];exact zh _ _
theorem zN (w:World)(o1 o2:Obj):((w.alloc o1).alloc o2).heap.size=w.heap.size+2∧((w.alloc o1).alloc o2).heap[w.heap.size]?=some o1∧
  ((w.alloc o1).alloc o2).heap[w.heap.size+1]?=some o2:=by
 have e1:(w.alloc o1).heap.size=w.heap.size+1:=by simp
 refine⟨by simp,?_,?_⟩
 ·rw[Below.heap_alloc _ _ _ (by omega)];exact zh _ _
 ·rw[←e1];exact zh _ _
def zr (w:World) (lo hi:Nat) (k:IntKind) (v:Value) (xs:List Int):Prop:=
 ∃ao cap,v= .slice ao xs.length cap∧xs.length≤9223372036854775807∧(xs.length≤cap∧(ao=none→cap=0))∧
  (xs= []∨ ∃b off,ao=some ⟨b,off,none⟩∧lo≤b∧b<hi∧ ∀i,i<xs.length→w.cell? ⟨b,off+i,none⟩=some (.int k (xs.getD i 0)))
theorem zr.chg {w w':World}{lo hi l r:Nat}{k:IntKind}{v:Value}{xs:List Int}(h:zr w lo hi k v xs)(c:Chg l r w w')(d:hi≤l∨r≤lo∨r≤l):zr w' lo hi k v xs:=by
 obtain⟨ao,cap,hv,hl,hc,h⟩:=h;refine⟨ao,cap,hv,hl,hc,?_⟩;rcases h with h|⟨b,off,ha,h1,h2,h3⟩
 ·exact Or.inl h
 ·exact Or.inr ⟨b,off,ha,h1,h2,fun i hi=>c.cell (h3 i hi) (by omega)⟩
theorem zr.mono {w:World}{lo hi lo' hi':Nat}{k:IntKind}{v:Value}{xs:List Int}(h:zr w lo hi k v xs)(a:lo'≤lo)(b:hi≤hi'):zr w lo' hi' k v xs:=by
 obtain⟨ao,cap,hv,hl,hc,h⟩:=h;refine⟨ao,cap,hv,hl,hc,?_⟩;rcases h with h|⟨x,off,ha,h1,h2,h3⟩
 ·exact Or.inl h
 ·exact Or.inr ⟨x,off,ha,by omega,by omega,h3⟩
theorem zr.nil (w:World)(lo hi:Nat)(k:IntKind):zr w lo hi k (.slice none 0 0) []:=⟨none,0,rfl,by simp,⟨by simp,by simp⟩,Or.inl rfl⟩
abbrev Wr:Type:=Int×List Int
def qF (w:World) (lo hi:Nat) (v:Value) (ps:List Wr):Prop:=
 ∃ao cap,v= .slice ao ps.length cap∧ps.length≤9223372036854775807∧ps.length≤cap∧
  (ps= []∨ ∃b off,ao=some ⟨b,off,none⟩∧lo≤b∧b<hi∧ ∀i,i<ps.length→ ∃dv,
   w.cell? ⟨b,off+i*2,none⟩=some (.int .i64 (ps.getD i (0,[])).1)∧w.cell? ⟨b,off+i*2+1,none⟩=some dv∧zr w lo hi .u8 dv (ps.getD i (0,[])).2)
theorem qF.chg {w w':World}{lo hi l r:Nat}{v:Value}{ps:List Wr}(h:qF w lo hi v ps)(c:Chg l r w w')(d:hi≤l∨r≤lo∨r≤l):qF w' lo hi v ps:=by
 obtain⟨ao,cap,hv,hl,hc,h⟩:=h;refine⟨ao,cap,hv,hl,hc,?_⟩;rcases h with h|⟨b,off,ha,h1,h2,h3⟩
 ·exact Or.inl h
 ·refine Or.inr ⟨b,off,ha,h1,h2,fun i hi=>?_⟩;obtain⟨dv,c1,c2,vw⟩:=h3 i hi;exact⟨dv,c.cell c1 (by omega),c.cell c2 (by omega),vw.chg c d⟩
theorem qF.mono {w:World}{lo hi lo' hi':Nat}{v:Value}{ps:List Wr}(h:qF w lo hi v ps)(a:lo'≤lo)(b:hi≤hi'):qF w lo' hi' v ps:=by
 obtain⟨ao,cap,hv,hl,hc,h⟩:=h;refine⟨ao,cap,hv,hl,hc,?_⟩;rcases h with h|⟨x,off,ha,h1,h2,h3⟩
 ·exact Or.inl h
 ·refine Or.inr ⟨x,off,ha,by omega,by omega,fun i hi=>?_⟩;obtain⟨dv,c1,c2,vw⟩:=h3 i hi;exact⟨dv,c1,c2,vw.mono a b⟩
theorem qF.nil (w:World)(lo hi:Nat):qF w lo hi (.slice none 0 0) []:=⟨none,0,rfl,by simp,by simp,Or.inl rfl⟩
structure Dsk where
 dur:List Int
 pend:List Wr
def ZU (w:World) (lo hi:Nat) (v:Value) (d:Dsk):Prop:= ∃dv pv,v= .agg #[dv,pv]∧zr w lo hi .u8 dv d.dur∧qF w lo hi pv d.pend
theorem ZU.chg {w w':World}{lo hi l r:Nat}{v:Value}{d:Dsk}(h:ZU w lo hi v d)(c:Chg l r w w')(e:hi≤l∨r≤lo∨r≤l):ZU w' lo hi v d:=by
 obtain⟨dv,pv,hv,h1,h2⟩:=h;exact⟨dv,pv,hv,h1.chg c e,h2.chg c e⟩
theorem ZU.mono {w:World}{lo hi lo' hi':Nat}{v:Value}{d:Dsk}(h:ZU w lo hi v d)(a:lo'≤lo)(b:hi≤hi'):ZU w lo' hi' v d:=by
 obtain⟨dv,pv,hv,h1,h2⟩:=h;exact⟨dv,pv,hv,h1.mono a b,h2.mono a b⟩
def zi (w:World) (base:Nat) (e:TypeId) (v:Value) (xs:List Int):Prop:=w.ownsRow base e 1 v xs.length (xs.map (Value.int .u8))
theorem zi.view {w:World}{base:Nat}{e:TypeId}{v:Value}{xs:List Int}(h:zi w base e v xs)(hl:xs.length≤9223372036854775807){hi:Nat}(hb: ∀g,v.ownBlock=some g→g<hi):zr w base hi .u8 v xs:=by
 have h':=h;obtain⟨_,h2⟩:=h;rcases h2 with⟨rfl,h0⟩|⟨g,cap,cur,rfl,hg,hh,hc,hm,hs,ht⟩
 ·obtain rfl:xs= []:=List.eq_nil_of_length_eq_zero h0;exact zr.nil _ _ _ _
 ·refine⟨_,cap,rfl,hl,⟨hc,by simp⟩,?_⟩;refine Or.inr ⟨g,0,rfl,hg,hb g rfl,fun i hi=>?_⟩;have:=World.ownsRow.cellAt h' i (by simpa using hi);rw[Nat.zero_add,this];simp[hi]
theorem zi.chg {w w':World}{base l r:Nat}{e:TypeId}{v:Value}{xs:List Int}(h:zi w base e v xs)(c:Chg l r w w')(d: ∀g,v.ownBlock=some g→g<l∨r≤g):zi w' base e v xs:=by
 obtain⟨h1,h2⟩:=h;refine⟨h1,?_⟩;rcases h2 with h2|⟨g,cap,cur,hv,hg,hh,r⟩
 ·exact Or.inl h2
 ·refine Or.inr ⟨g,cap,cur,hv,hg,?_,r⟩;rw[c.block g (gLt hh) (d g (by rw[hv];rfl))];exact hh
theorem zi.base {w:World}{base base':Nat}{e:TypeId}{v:Value}{xs:List Int}(h:zi w base e v xs)(hb: ∀g,v.ownBlock=some g→base'≤g):zi w base' e v xs:=by
 obtain⟨h1,h2⟩:=h;refine⟨h1,?_⟩;rcases h2 with h2|⟨g,cap,cur,hv,hg,hh,r⟩
 ·exact Or.inl h2
 ·exact Or.inr ⟨g,cap,cur,hv,hb g (by rw[hv];rfl),hh,r⟩
theorem zi.set {w:World}{base:Nat}{e:TypeId}{v:Value}{xs:List Int}(h:zi w base e v xs){p:Addr}(hp:v.ownBlock≠some p.block)(u:Value):zi (w.setCell p u) base e v xs:=ownsRow_setCell_other h hp u
theorem zi.lt {w:World}{base:Nat}{e:TypeId}{v:Value}{xs:List Int}(h:zi w base e v xs): ∀g,v.ownBlock=some g→base≤g∧g<w.heap.size:=World.ownsRow.lt h
theorem zi.elem {w:World}{base:Nat}{e:TypeId}{v:Value}{xs:List Int}{g:Nat}(h:zi w base e v xs)(hg:v.ownBlock=some g): ∃cur,w.heap[g]?=some (.cells cur e (0,0)):=by
 obtain⟨_,h2⟩:=h;rcases h2 with⟨rfl,_⟩|⟨g',cap,cur,rfl,_,hh,_⟩
 ·cases hg
 ·cases hg;exact⟨cur,hh⟩
structure Zj (w:World)(base:Nat)(eW eB:TypeId)(v:Value)(ps:List Wr)(cells:List Value)(dvs:Nat→Value):Prop where
 row:w.ownsRow base eW 2 v ps.length cells
 at0: ∀i,i<ps.length→cells[i*2]?=some (.int .i64 (ps.getD i (0,[])).1)
 at1: ∀i,i<ps.length→cells[i*2+1]?=some (dvs i)
 data: ∀i,i<ps.length→zi w base eB (dvs i) (ps.getD i (0,[])).2
 apart: ∀i j g,i<j→j<ps.length→(dvs i).ownBlock=some g→(dvs j).ownBlock≠some g
theorem Zj.chg {w w':World}{base l r:Nat}{eW eB:TypeId}{v:Value}{ps:List Wr}{cells:List Value}{dvs:Nat→Value}(h:Zj w base eW eB v ps cells dvs)(c:Chg l r w w')
  (d: ∀g,v.ownBlock=some g→g<l∨r≤g) (d': ∀i g,i<ps.length→(dvs i).ownBlock=some g→g<l∨r≤g):Zj w' base eW eB v ps cells dvs:=by
 refine⟨?_,h.at0,h.at1,fun i hi=>(h.data i hi).chg c (d' i · hi),h.apart⟩;obtain⟨h1,h2⟩:=h.row;refine⟨h1,?_⟩;rcases h2 with h2|⟨g,cap,cur,hv,hg,hh,r⟩
 ·exact Or.inl h2
 ·refine Or.inr ⟨g,cap,cur,hv,hg,?_,r⟩;rw[c.block g (gLt hh) (d g (by rw[hv];rfl))];exact hh
theorem Zj.view {w:World}{base:Nat}{eW eB:TypeId}{v:Value}{ps:List Wr}{cells:List Value}{dvs:Nat→Value}(h:Zj w base eW eB v ps cells dvs)
  (hl:ps.length≤9223372036854775807) (hl': ∀i,i<ps.length→(ps.getD i (0,[])).2.length≤9223372036854775807) {hi:Nat} (hb: ∀g,v.ownBlock=some g→g<hi)
  (hb': ∀i g,i<ps.length→(dvs i).ownBlock=some g→g<hi):qF w base hi v ps:=by
 obtain⟨row,at0,at1,data,_⟩:=h;have row':=row;obtain⟨_,h2⟩:=row;rcases h2 with⟨rfl,h0⟩|⟨g,cap,cur,rfl,hg,hh,hc,hm,hs,ht⟩
 ·obtain rfl:ps= []:=List.eq_nil_of_length_eq_zero h0;exact qF.nil _ _ _
 ·refine⟨_,cap,rfl,hl,hc,Or.inr ⟨g,0,rfl,hg,hb g rfl,fun i hi=>⟨dvs i,?_,?_,(data i hi).view (hl' i hi) (hb' i · hi)⟩⟩⟩
  ·rw[Nat.zero_add,World.ownsRow.cellAt row' (i*2) (by omega)];exact at0 i hi
  ·rw[Nat.zero_add,World.ownsRow.cellAt row' (i*2+1) (by omega)];exact at1 i hi
structure adS (w:World)(lo hi:Nat)(eW eB:TypeId)(v:Value)(d:Dsk)(dv pv:Value)(cells:List Value)(dvs:Nat→Value):Prop where
 agg:v= .agg #[dv,pv]
 dur:zi w lo eB dv d.dur
 pend:Zj w lo eW eB pv d.pend cells dvs
 apart: ∀i g,i<d.pend.length→dv.ownBlock=some g→(dvs i).ownBlock≠some g
 hiD: ∀g,dv.ownBlock=some g→g<hi
 hiP: ∀g,pv.ownBlock=some g→g<hi
 hiX: ∀i g,i<d.pend.length→(dvs i).ownBlock=some g→g<hi
def qK (w:World) (lo hi:Nat) (eW eB:TypeId) (v:Value) (d:Dsk):Prop:= ∃dv pv cells dvs,adS w lo hi eW eB v d dv pv cells dvs
structure Dsk.Fits (d:Dsk):Prop where
 dur:d.dur.length≤140737488355328
 pend:d.pend.length≤140737488355328
 data: ∀i,i<d.pend.length→(d.pend.getD i (0,[])).2.length≤140737488355328
theorem qK.view {w:World}{lo hi:Nat}{eW eB:TypeId}{v:Value}{d:Dsk}(h:qK w lo hi eW eB v d)(hf:d.Fits):ZU w lo hi v d:=by
 obtain⟨dv,pv,cells,dvs,h⟩:=h;exact⟨dv,pv,h.agg,h.dur.view (by have:=hf.dur;omega) h.hiD,h.pend.view (by have:=hf.pend;omega) (fun i hi=>by have:=hf.data i hi;omega) h.hiP h.hiX⟩
theorem zx {w:World}{base:Nat}{e:TypeId}{size:Nat}{v:Value}{n:Nat}{xs:List Value}(h:w.ownsRow base e size v n xs): ∃ao l c,v= .slice ao l c:=by
 rcases h.2 with⟨rfl,_⟩|⟨g,cap,cur,rfl,_⟩
 ·exact⟨_,_,_,rfl⟩
 ·exact⟨_,_,_,rfl⟩
theorem qK.agg {w:World}{lo hi:Nat}{eW eB:TypeId}{v:Value}{d:Dsk}(h:qK w lo hi eW eB v d): ∃a l c a' l' c',v= .agg #[.slice a l c,.slice a' l' c']:=by
 obtain⟨dv,pv,_,_,h⟩:=h;obtain⟨a,l,c,h1⟩:=zx h.dur;obtain⟨a',l',c',h2⟩:=zx h.pend.row;exact⟨a,l,c,a',l',c',by rw[h.agg,h1,h2]⟩
theorem qK.chg {w w':World}{lo hi l r:Nat}{eW eB:TypeId}{v:Value}{d:Dsk}(h:qK w lo hi eW eB v d)(c:Chg l r w w')(e:hi≤l∨r≤lo∨r≤l):qK w' lo hi eW eB v d:=by
 obtain⟨dv,pv,cells,dvs,h⟩:=h;have a1: ∀g,dv.ownBlock=some g→g<l∨r≤g:=fun g hg=>by have:=h.hiD g hg;have:=h.dur.lt g hg;omega
 have a2: ∀g,pv.ownBlock=some g→g<l∨r≤g:=fun g hg=>by have:=h.hiP g hg;have:=World.ownsRow.lt h.pend.row g hg;omega
 have a3: ∀i g,i<d.pend.length→(dvs i).ownBlock=some g→g<l∨r≤g:=fun i g hi hg=>by have:=h.hiX i g hi hg;have:=(h.pend.data i hi).lt g hg;omega
 exact⟨dv,pv,cells,dvs,h.agg,h.dur.chg c a1,h.pend.chg c a2 a3,h.apart,h.hiD,h.hiP,h.hiX⟩
def marks (k n:Nat):List Int:=(List.range n).map fun i=>((k+i:Nat):Int) % 256
def cnt (ps:List Wr):Nat:=(ps.map fun p=>p.2.length+1).sum
theorem abL (ps:List Wr):ps.length≤cnt ps:=by
 unfold cnt
 induction ps with
 |nil=>simp
 |cons p r ih=>simp at*;omega
def Dsk.none:Dsk:=⟨[],[]⟩
theorem zi.nil (w:World)(base:Nat)(e:TypeId):zi w base e (.slice Option.none 0 0) []:=World.ownsRow_nil _ _ _ _
theorem Zj.nil (w:World)(base:Nat)(eW eB:TypeId):Zj w base eW eB (.slice Option.none 0 0) [] [] (fun _=> .slice Option.none 0 0):=
 ⟨World.ownsRow_nil _ _ _ _,by simp,by simp,by simp,by simp⟩
theorem qK.none (w:World)(lo hi:Nat)(eW eB:TypeId):qK w lo hi eW eB (.agg #[.slice Option.none 0 0,.slice Option.none 0 0]) Dsk.none:=
 ⟨_,_,[],_,rfl,zi.nil _ _ _,Zj.nil _ _ _ _,by simp[Dsk.none],by simp[Value.ownBlock],by simp[Value.ownBlock],by simp[Dsk.none]⟩
def Byt (xs:List Int):Prop:= ∀x∈xs,0≤x∧x<256
theorem Byt.getD {xs:List Int}(h:Byt xs)(k:Nat):0≤xs.getD k 0∧xs.getD k 0<256:=by
 rw[List.getD_eq_getElem?_getD];by_cases hk:k<xs.length
 ·rw[List.getElem?_eq_getElem hk];exact h _ (List.getElem_mem hk)
 ·rw[List.getElem?_eq_none (by omega)];simp
theorem VJ {xs:List Int}(h: ∀x∈xs,(Lit.int .u8 x).wf=true):Byt xs:=by
 intro x hx;have h1:=h x hx;have h2:IntKind.u8.min≤x∧x≤IntKind.u8.max:=by simpa [Lit.wf] using h1
 have e1:IntKind.u8.min=0:=by decide
 have e2:IntKind.u8.max=255:=by decide
 omega
theorem Byt.take {xs:List Int}(h:Byt xs)(n:Nat):Byt (xs.take n):=fun x hx=>h x (List.mem_of_mem_take hx)
theorem Byt.drop {xs:List Int}(h:Byt xs)(n:Nat):Byt (xs.drop n):=fun x hx=>h x (List.mem_of_mem_drop hx)
def qU (w:World) (p:Nat) (cv:Value) (at' sz:Nat):Prop:=w.heap[p]?=some (.cells #[cv,.int .i64 at',.int .i64 sz] 162 (0,0))
theorem qU.chg {w w':World}{p l r:Nat}{cv:Value}{n sz:Nat}(h:qU w p cv n sz)(c:Chg l r w w')(d:p<l∨r≤p):qU w' p cv n sz:=
 (c.block p (gLt h) d).trans h
theorem EF {w:World}{s:Nat}{a b c:Value}{t:TypeId}(h:w.heap[s]?=some (.cells #[a,b,c] t (0,0))):
  w.cell? ⟨s,0,none⟩=some a∧w.cell? ⟨s,1,none⟩=some b∧w.cell? ⟨s,2,none⟩=some c∧w.frozen? ⟨s,0,none⟩=false∧w.frozen? ⟨s,1,none⟩=false∧w.frozen? ⟨s,2,none⟩=false:=by
 simp[World.cell?,World.frozen?,h]
theorem qU.next {w:World}{p:Nat}{cv:Value}{n sz:Nat}(h:qU w p cv n sz):qU (w.setCell ⟨p,1,none⟩ (.int .i64 ((n:Int)+1))) p cv (n+1) sz:=by
 unfold qU at*;simp only[World.setCell,Array.getElem?_modify,h,if_true,Option.map_some];rfl
def nxt (code:List Int) (at':Nat) (n:Int):Int:=
 if n<1 then 0 else if code.length=0 then((at':Int)*7) % n else
  (if n>200 then(code.getD (at' % code.length) 0+((at'/code.length:Nat):Int)*37)*251+code.getD ((at'+1) % code.length) 0*13+at' else code.getD (at' % code.length) 0+((at'/code.length:Nat):Int)*37) % n
theorem Jn (code:List Int)(at':Nat)(n:Int):0≤nxt code at' n∧(1≤n→nxt code at' n<n):=by
 unfold nxt;split
 ·omega
 ·rename_i h;split
  ·exact⟨Int.emod_nonneg _ (by omega),fun _=>Int.emod_lt_of_pos _ (by omega)⟩
  ·exact⟨Int.emod_nonneg _ (by omega),fun _=>Int.emod_lt_of_pos _ (by omega)⟩
theorem jN (w:World)(p at' sz:Nat){lo hi:Nat}{cv:Value}{code:List Int}(n:Int)(hn:n≤9223372036854775807)(hB:Byt code)(hcl:code.length≤1048600)(hat:at'≤1099511627776)
  (hs:qU w p cv at' sz) (hc:zr w lo hi .u8 cv code) (hp:p<lo∨hi≤p):
  Calls Tryz.prog 78 #[.pointer (some ⟨p,0,none⟩),.int .i64 n] w fun e w'=>e= .returned (.int .i64 (nxt code at' n))∧qU w' p cv (at'+1) sz∧Chg p (p+1) w w':=by
 obtain⟨c0,c1,c2,f0,f1,f2⟩:=EF hs;have HS:Hid (qU (w.setCell ⟨p,1,none⟩ (.int .i64 ((at':Int)+1))) p cv (at'+1) sz):=hs.next;have HC:Hid (Chg p (p+1) w (w.setCell ⟨p,1,none⟩ (.int .i64 ((at':Int)+1)))):=Chg.setCell (p:=⟨p,1,none⟩) (Chg.refl p (p+1) w) (Or.inl ⟨Nat.le_refl _,Nat.lt_succ_self _⟩) _;obtain⟨ao,cap,rfl,hl,⟨hcap,hnil⟩,hcell⟩:=hc;have hne:w.cell? ⟨p,1,none⟩≠none:=by rw[c1];simp
 clear hs;by_cases hn1:n<1
 ·have HV:Hid (nxt code at' n=0):=by show _=_;unfold nxt;rw[if_pos hn1]
  rw[HV.out];go_enter Tryz.func78,Tryz.ntmps78;go_wp2;go_ret;exact⟨rfl,HS.out,HC.out⟩
 ·by_cases hk:code.length=0
  ·have HV:Hid (nxt code at' n=((at':Int)*7) % n):=by show _=_;unfold nxt;rw[if_neg hn1,if_pos hk]
   rw[HV.out];have hk':((code.length:Int)==0)=true:=by rw[hk];rfl
   have hn0: ¬n=0:=by omega
   clear hcell hk;go_enter Tryz.func78,Tryz.ntmps78;go_wp2;go_ret;exact⟨rfl,HS.out,HC.out⟩
  ·obtain⟨b,off,rfl,hb1,hb2,hc2⟩: ∃b off,ao=some ⟨b,off,none⟩∧lo≤b∧b<hi∧ ∀i,i<code.length→w.cell? ⟨b,off+i,none⟩=some (.int .u8 (code.getD i 0)):=by
    rcases hcell with h|⟨b,off,e,h1,h2,h3⟩
    ·rw[h] at hk;exact absurd rfl hk
    ·exact⟨b,off,e,h1,h2,h3⟩
   have hk':((code.length:Int)==0)=false:=by simp only[beq_eq_false_iff_ne,ne_eq];omega
   have hk0: ¬(code.length:Int)=0:=by omega
   have hn0: ¬n=0:=by omega
   have hpb:b≠p:=by omega
   obtain⟨i1,hi1⟩: ∃i1,i1=at' % code.length:=⟨_,rfl⟩;obtain⟨i2,hi2⟩: ∃i2,i2=(at'+1) % code.length:=⟨_,rfl⟩;obtain⟨qt,hq⟩: ∃qt,qt=at'/code.length:=⟨_,rfl⟩;have l1:i1<code.length:=by rw[hi1];exact Nat.mod_lt _ (by omega)
   have l2:i2<code.length:=by rw[hi2];exact Nat.mod_lt _ (by omega)
   have lq:qt≤at':=by rw[hq];exact Nat.div_le_self _ _
   have e1:(at':Int) % (code.length:Int)=(i1:Int):=by rw[hi1];omega
   have e2:((at':Int)+1) % (code.length:Int)=(i2:Int):=by rw[hi2];exact(Int.natCast_emod (at'+1) code.length).symm
   have eq:(at':Int)/ (code.length:Int)=(qt:Int):=by rw[hq];omega
   have d1:=hc2 i1 l1;have d2:=hc2 i2 l2;have b1:=hB.getD i1;have b2:=hB.getD i2;have HV:Hid (nxt code at' n=(if n>200 then(code.getD i1 0+(qt:Int)*37)*251+code.getD i2 0*13+at' else code.getD i1 0+(qt:Int)*37) % n):=by
    show _=_;unfold nxt;rw[if_neg hn1,if_neg hk,←hi1,←hi2,←hq]
   rw[HV.out];generalize code.getD i1 0=x1 at*;generalize code.getD i2 0=x2 at*;clear hi1 hi2 hq hc2 hcell HV hB;have hi1':(i1:Int)<(code.length:Int):=by omega
   have hi2':(i2:Int)<(code.length:Int):=by omega
   have d1:(w.setCell ⟨p,1,none⟩ (.int .i64 ((at':Int)+1))).cell? ⟨b,off+i1,none⟩=some (.int .u8 x1):=(World.cell?_setCell_other _ _ _ _ (by simp)).trans d1;have d2:(w.setCell ⟨p,1,none⟩ (.int .i64 ((at':Int)+1))).cell? ⟨b,off+i2,none⟩=some (.int .u8 x2):=(World.cell?_setCell_other _ _ _ _ (by simp)).trans d2;by_cases h200:n>200
   ·rw[if_pos h200];go_enter Tryz.func78,Tryz.ntmps78;go_wp2;go_quiet (fail);go_wp2;go_quiet (fail);go_wp2;go_ret;exact⟨rfl,HS.out,HC.out.drewN _⟩
   ·rw[if_neg h200];go_enter Tryz.func78,Tryz.ntmps78;go_wp2;go_quiet (fail);go_wp2;go_ret;exact⟨rfl,HS.out,HC.out.drewN _⟩
theorem Kt (w:World)(ao:Option Addr)(n cap:Nat)(hl:n≤9223372036854775807):
  Calls Tryz.prog 50 #[.slice ao n cap] w fun e w'=>e= .returned (.pointer (some ⟨w.heap.size,0,none⟩))∧qU w' w.heap.size (.slice ao n cap) 0 (min (n/16) 12)∧Chg 0 0 w w':=by
 have C:Chg 0 0 w (w.alloc (.cells #[.slice ao n cap,.int .i64 ((0:Nat):Int),.int .i64 ((min (n/16) 12:Nat):Int)] 162)):=Chg.alloc (Chg.refl 0 0 w) _;have N:=zh w (.cells #[.slice ao n cap,.int .i64 ((0:Nat):Int),.int .i64 ((min (n/16) 12:Nat):Int)] 162);by_cases h:12<n/16
 ·have h':(n:Int)/16>12:=by omega
  rw[Nat.min_eq_right (by omega)] at*;go_enter Tryz.func50,Tryz.ntmps50;go_wp2;go_ret;exact⟨rfl,N,C⟩
 ·have h': ¬(n:Int)/16>12:=by omega
  have e:(n:Int)/16=((n/16:Nat):Int):=by omega
  rw[Nat.min_eq_left (by omega)] at*;have HN:Hid ((w.alloc (.cells #[.slice ao n cap,.int .i64 ((0:Nat):Int),.int .i64 ((n/16:Nat):Int)] 162)).heap[w.heap.size]?=some (.cells #[.slice ao n cap,.int .i64 ((0:Nat):Int),.int .i64 ((n/16:Nat):Int)] 162 (0,0))):=N;have HC:Hid _:=C;clear N C e;go_enter Tryz.func50,Tryz.ntmps50;go_wp2;go_ret;exact⟨rfl,HN.out,HC.out⟩
theorem ZE (w:World)(p at' sz:Nat){lo hi:Nat}{cv:Value}{code:List Int}(n:Int)(hn:n≤9223372036854775807)(hB:Byt code)(hcl:code.length≤1048600)(hat:at'≤1099511627776)
  (hs:qU w p cv at' sz) (hc:zr w lo hi .u8 cv code) (hp:p<lo∨hi≤p):
  Calls Tryz.prog 79 #[.pointer (some ⟨p,0,none⟩),.int .i64 n] w fun e w'=>e= .returned (.bool (nxt code at' n==0))∧qU w' p cv (at'+1) sz∧Chg p (p+1) w w':=by
 go_enter Tryz.func79,Tryz.ntmps79;go_wp2_with fail;refine(jN _ p at' sz n hn hB hcl hat hs hc hp).mono ?_;rintro e w1 ⟨rfl,hs',hc'⟩;have HS:Hid (qU w1 p cv (at'+1) sz):=hs';clear hs' hs;by_cases h:nxt code at' n=0
 ·have HV:Hid ((nxt code at' n==0)=true):=by show _=_;rw[h];rfl
  have h':(nxt code at' n==0)=true:=HV.out;generalize hx:nxt code at' n=x at*;clear h;have HX:Hid (nxt code at' n=x):=hx;clear hx;go_wp2;go_ret;exact⟨by rw[HX.out,HV.out];rfl,HS.out,hc'⟩
 ·have HV:Hid ((nxt code at' n==0)=false):=by show _=_;simp only[beq_eq_false_iff_ne,ne_eq];exact h
  have h':(nxt code at' n==0)=false:=HV.out;generalize hx:nxt code at' n=x at*;clear h;have HX:Hid (nxt code at' n=x):=hx;clear hx;go_wp2;go_ret;exact⟨by rw[HX.out,HV.out];rfl,HS.out,hc'⟩
structure ScW where
 p:Nat
 cv:Value
 code:List Int
 lo:Nat
 hi:Nat
 sz:Nat
structure EnW (S:ScW)(w0 w:World)(A:Nat):Prop where
 src: ∃a,a≤A∧qU w S.p S.cv a S.sz
 view:zr w S.lo S.hi .u8 S.cv S.code
 out:S.p<S.lo∨S.hi≤S.p
 byt:Byt S.code
 len:S.code.length≤1048600
 chg:Chg S.p (S.p+1) w0 w
 top:S.hi≤w0.heap.size∧S.p<w0.heap.size
theorem EnW.self {S:ScW}{w0 w:World}{A:Nat}(h:EnW S w0 w A):EnW S w w A:=
 ⟨h.src,h.view,h.out,h.byt,h.len,Chg.refl _ _ _,by have:=h.top;have:=h.chg.size;omega⟩
theorem EnW.join {S:ScW}{w0 w w':World}{A A':Nat}(h:EnW S w0 w A)(k:EnW S w w' A'):EnW S w0 w' A':=
 ⟨k.src,k.view,k.out,k.byt,k.len,h.chg.trans k.chg,h.top⟩
theorem EnW.mono {S:ScW}{w0 w:World}{A A':Nat}(h:EnW S w0 w A)(hA:A≤A'):EnW S w0 w A':=
 ⟨by obtain⟨a,ha,hs⟩:=h.src;exact⟨a,by omega,hs⟩,h.view,h.out,h.byt,h.len,h.chg,h.top⟩
theorem EnW.own {S:ScW}{w0 w w':World}{A b r:Nat}(h:EnW S w0 w A)(c:Chg b r w w')(hb:w0.heap.size≤b):EnW S w0 w' A:=by
 have ht:=h.top;obtain⟨a,ha,hs⟩:=h.src;exact⟨⟨a,ha,hs.chg c (by omega)⟩,h.view.chg c (by omega),h.out,h.byt,h.len,h.chg.step c (Or.inr (Or.inl hb)),ht⟩
theorem EnW.keep {S:ScW}{w0 w w':World}{A:Nat}(h:EnW S w0 w A)(c:Chg 0 0 w w'):EnW S w0 w' A:=by
 have ht:=h.top;obtain⟨a,ha,hs⟩:=h.src;exact⟨⟨a,ha,hs.chg c (by omega)⟩,h.view.chg c (by omega),h.out,h.byt,h.len,h.chg.step c (Or.inr (Or.inr (Nat.le_refl 0))),ht⟩
theorem EnW.alloc {S:ScW}{w0 w:World}{A:Nat}(h:EnW S w0 w A)(o:Obj):EnW S w0 (w.alloc o) A:=h.keep (Chg.alloc (Chg.refl 0 0 w) o)
theorem EnW.size {S:ScW}{w0 w:World}{A:Nat}(h:EnW S w0 w A):w0.heap.size≤w.heap.size:=h.chg.size
theorem YZ {S:ScW}{w0 w:World}{A:Nat}(h:EnW S w0 w A)(hA:A≤1000000000)(n:Int)(hn:n≤9223372036854775807):
  Calls Tryz.prog 78 #[.pointer (some (zd S.p)),za n] w fun e w'=> ∃r:Int,e= .returned (za r)∧0≤r∧(1≤n→r<n)∧EnW S w0 w' (A+1):=by
 obtain⟨a,ha,hs⟩:=h.src;refine(jN w S.p a S.sz n hn h.byt h.len (by omega) hs h.view h.out).mono ?_;rintro e w' ⟨rfl,hs',c⟩;have hr:=Jn S.code a n;have ht:=h.top;refine⟨_,rfl,hr.1,hr.2,⟨a+1,by omega,hs'⟩,h.view.chg c ?_,h.out,h.byt,h.len,h.chg.trans c,ht⟩;have:=h.out;omega
theorem VN {S:ScW}{w0 w:World}{A:Nat}(h:EnW S w0 w A)(hA:A≤1000000000)(n:Int)(hn:n≤9223372036854775807):
  Calls Tryz.prog 79 #[.pointer (some (zd S.p)),za n] w fun e w'=> ∃b:Bool,e= .returned (.bool b)∧EnW S w0 w' (A+1):=by
 obtain⟨a,ha,hs⟩:=h.src;refine(ZE w S.p a S.sz n hn h.byt h.len (by omega) hs h.view h.out).mono ?_;rintro e w' ⟨rfl,hs',c⟩;have ht:=h.top;refine⟨_,rfl,⟨a+1,by omega,hs'⟩,h.view.chg c ?_,h.out,h.byt,h.len,h.chg.trans c,ht⟩;have:=h.out;omega
theorem Tryz.infoU5:(Tryz.prog.info? 5).map (fun i=>(i.zero,i.size,i.bytes))=some (some (zb 0),1,1):=by kernel_rfl
theorem ad4 (w:World)(a b c d:Int):zi (w.alloc (.cells #[zb a,zb b,zb c,zb d] 5)) w.heap.size 5 (.slice (some (zd w.heap.size)) 4 4) [a,b,c,d]:=by
 have:=World.ownsRow_lit (base:=w.heap.size) (e:=5) (size:=1) w #[zb a,zb b,zb c,zb d] 4 (Nat.le_refl _) (by unfold maxLen;omega) rfl;simpa [zi] using this
theorem Ks (w:World)(p at' sz:Nat){lo hi:Nat}{cv:Value}{code:List Int}(hB:Byt code)(hcl:code.length≤1048600)(hat:at'≤1099511627776)
  (hs:qU w p cv at' sz) (hc:zr w lo hi .u8 cv code) (hp:p<lo∨hi≤p):
  Calls Tryz.prog 136 #[.pointer (some (zd p))] w fun e w'=> ∃g ys,e= .returned (.slice (some (zd g)) 4 4)∧Byt ys∧ys.length=4∧zi w' w.heap.size 5 (.slice (some (zd g)) 4 4) ys∧qU w' p cv (at'+1) sz∧Chg p (p+1) w w':=by
 have hps:p<w.heap.size:=(gLt hs);go_enter Tryz.func136,Tryz.ntmps136;go_wp2_with fail;refine(ZE _ p at' sz 6 (by omega) hB hcl hat hs hc hp).mono ?_;rintro e w1 ⟨rfl,hs1,hc1⟩;have HS:Hid (∀x,qU (w1.alloc x) p cv (at'+1) sz):=fun x=>hs1.chg (Chg.alloc (Chg.refl 0 0 w1) x) (by omega);have HC:Hid (∀x,Chg p (p+1) w (w1.alloc x)):=fun x=>hc1.alloc x;have HO:Hid (∀a b c d,zi (w1.alloc (.cells #[zb a,zb b,zb c,zb d] 5)) w.heap.size 5 (.slice (some (zd w1.heap.size)) 4 4) [a,b,c,d]):=
  fun a b c d=>(ad4 w1 a b c d).base (fun g hg=>by cases hg;exact hc1.size)
 clear hs1 hc1 hs hc;generalize (nxt code at' 6==0)=q
 cases q
 ·go_wp2;go_ret;exact⟨w1.heap.size,[106,108,111,103],rfl,by intro x hx;simp at hx;omega,rfl,HO.out 106 108 111 103,HS.out _,HC.out _⟩
 ·go_wp2;go_ret;exact⟨w1.heap.size,[106,108,111,104],rfl,by intro x hx;simp at hx;omega,rfl,HO.out 106 108 111 104,HS.out _,HC.out _⟩
theorem zi.store {w:World}{base g n cap:Nat}{e:TypeId}{xs:List Int}(h:zi w base e (.slice (some (zd g)) n cap) xs)(hn:xs.length=n)(i:Nat)(hi:i<n)(x:Int):
  (∃u,w.cell? ⟨g,i,none⟩=some u)∧w.frozen? ⟨g,i,none⟩=false∧zi (w.setCell ⟨g,i,none⟩ (zb x)) base e (.slice (some (zd g)) n cap) (xs.set i x):=by
 subst hn;unfold zi at h;refine⟨?_,World.ownsRow.frozenAt h i,?_⟩
 ·rw[World.ownsRow.cellAt h i (by omega)];exact⟨_,List.getElem?_eq_getElem (by simpa using hi)⟩
 ·have:=(World.ownsRow.stored h i (zb x)).1;unfold zi;rw[List.length_set,List.map_set];exact this
theorem Byt.set {xs:List Int}(h:Byt xs)(i:Nat){x:Int}(hx:0≤x∧x<256):Byt (xs.set i x):=by
 intro y hy;rcases List.mem_or_eq_of_mem_set hy with h'|rfl
 ·exact h y h'
 ·exact hx
theorem Byt.replicate (k:Nat){x:Int}(hx:0≤x∧x<256):Byt (List.replicate k x):=by
 intro y hy;obtain⟨_,rfl⟩:=List.mem_replicate.1 hy;exact hx
theorem Vh (w:World)(p at' sz:Nat){lo hi:Nat}{cv:Value}{code:List Int}(hB:Byt code)(hcl:code.length≤1048600)(hat:at'+5≤1099511627776)
  (hs:qU w p cv at' sz) (hc:zr w lo hi .u8 cv code) (hp:p<lo∨hi≤p):
  Calls Tryz.prog 114 #[.pointer (some (zd p))] w fun e w'=> ∃g cap ys k,e= .returned (.slice (some (zd g)) 64 cap)∧Byt ys∧ys.length=64∧zi w' w.heap.size 5 (.slice (some (zd g)) 64 cap) ys∧k≤5∧qU w' p cv (at'+k) sz∧Chg p (p+1) w w':=by
 obtain⟨ti,hti,hz0,hz1,hz2⟩:=info_parts Tryz.infoU5;have hps:p<w.heap.size:=(gLt hs);have C0:Chg p (p+1) w (w.alloc (.cells #[] 5)):=Chg.alloc (Chg.refl p (p+1) w) _;have hs0:qU (w.alloc (.cells #[] 5)) p cv at' sz:=hs.chg (Chg.alloc (Chg.refl 0 0 w) _) (by omega);have HO0:Hid (zi (w.alloc (.cells #[] 5)) w.heap.size 5 (.slice (some (zd w.heap.size)) 0 0) []):=by
  show zi _ _ _ _ _;have:=World.ownsRow_lit (base:=w.heap.size) (e:=5) (size:=1) w #[] 0 (Nat.le_refl _) (by unfold maxLen;omega) rfl;simpa [zi] using this
 have hN:=jN _ p at' sz 256 (by omega) hB hcl (by omega) hs0 (hc.chg C0 (by omega)) hp;have hr:=Jn code at' 256;generalize nxt code at' 256=x at*;clear hs hs0;go_enter Tryz.func114,Tryz.ntmps114;go_wp2_with fail;refine hN.mono ?_;rintro e w1 ⟨rfl,hs1,hc1⟩;clear hN;have hx:0≤x∧x<256:=⟨hr.1,hr.2 (by omega)⟩;have sz1:=hc1.size;have sz0:(w.alloc (.cells #[] 5)).heap.size=w.heap.size+1:=by simp
 have HO1:Hid (zi w1 w.heap.size 5 (.slice (some (zd w.heap.size)) 0 0) []):=HO0.out.chg hc1 (fun g hg=>by cases hg;right;show p+1≤w.heap.size;omega);have HC1:Hid (Chg p (p+1) w w1):=C0.trans hc1;have HS1:Hid (qU w1 p cv (at'+1) sz):=hs1;have sw1:w.heap.size≤w1.heap.size:=by omega
 clear C0 HO0 hs1 hc1 hr sz0 sz1;go_wp2;go_loopw [3,5] (fun out i wr=> ∃k:Nat,k≤64∧i=za k∧(∃g cap,out= .slice (some (zd g)) k cap)∧zi wr w.heap.size 5 out (List.replicate k x)∧qU wr p cv (at'+1) sz∧Chg p (p+1) w wr) (fun _ i _=>64-(intOf i).toNat)
 case atStart=>exact⟨0,Nat.zero_le _,rfl,⟨_,_,rfl⟩,HO1.out,HS1.out,HC1.out⟩
 case round=>
  obtain⟨k,hk,rfl,⟨og,oc,rfl⟩,ho,hs,hch⟩:=hrel;clear HO1 HS1 HC1;have swr:=hch.size;by_cases hlt:k<64
  ·have hi':(k:Int)<64:=by omega
   have ho2:=ho.chg (Chg.alloc (Chg.refl 0 0 wr) (.cells #[zb x] 5)) (by intro g _;omega);have HO2:Hid ((wr.alloc (.cells #[zb x] 5)).ownsRow w.heap.size 5 1 (.slice (some (zd og)) k oc) k ((List.replicate k x).map (Value.int .u8))):=by
    have:=ho2;unfold zi at this;rw[List.length_replicate] at this;exact this
   have Hgb:Hid (∀g,(Value.slice (some (zd og)) k oc).ownBlock=some g→w.heap.size≤g):=fun g hg=>(ho.lt g hg).1;have HNW:Hid (∀j u,[Value.int .u8 x][j]?=some u→(wr.alloc (.cells #[zb x] 5)).cell? (((zd wr.heap.size):Addr).add j)=some u):=by
    intro j u hj;have hj0:j=0:=by have:=(List.getElem?_eq_some_iff.1 hj).1;simp at this;exact this
    subst hj0;simp at hj;subst hj;simp[Addr.add]
   have bs:Hid (w.heap.size≤(wr.alloc (.cells #[zb x] 5)).heap.size):=by show _≤_;simp;omega
   have HS:Hid (qU wr p cv (at'+1) sz):=hs;have HC1:Hid (Chg p (p+1) w wr):=hch;clear ho ho2 hs hch;go_wp2_with (at_builtin;refine wpList_append_own _ rfl (.tmp 16) (.tmp 18) 22 rfl w.heap.size 5 ti (zb 0) 1 1 Tryz.underlying22 hti hz0 hz1 hz2 rfl (by decide) _ k ((List.replicate k x).map (Value.int .u8)) rfl HO2.out (zd wr.heap.size) 1 1 [zb x] rfl rfl HNW.out (by simp[Value.oneCell']) (by unfold maxLen;omega) (by omega) bs.out ?_)
   intro v' w3 hown hgrow hnn;have HV:Hid (∃g cap,v'= .slice (some (zd g)) (k+1) cap):=by
    show∃g cap,_;rcases hown.2 with⟨e,h0⟩|⟨g',cap',cur,e,_⟩
    ·omega
    ·exact⟨g',cap',e⟩
   have HO3:Hid (zi w3 w.heap.size 5 v' (List.replicate (k+1) x)):=by
    show zi _ _ _ _ _;unfold zi;rw[List.length_replicate,List.replicate_succ',List.map_append,List.map_replicate];exact hown
   have G:Chg w.heap.size (wr.heap.size+1) (wr.alloc (.cells #[zb x] 5)) w3:=Chg.ofGrown hgrow (fun g hg hlt=>⟨Hgb.out g hg,by simpa using hlt⟩);have HC3:Hid (Chg p (p+1) w w3):=(HC1.out.alloc _).step G (Or.inr (Or.inl (Nat.le_refl _)));have HS3:Hid (qU w3 p cv (at'+1) sz):=(HS.out.chg (Chg.alloc (Chg.refl 0 0 wr) _) (by omega)).chg G (Or.inl hps);clear hown hgrow G HNW HO2 bs HC1 hnn;go_wp2;go_roundw
   case rel=>exact⟨k+1,by omega,by go_num,HV.out,HO3.out,HS3.out,HC3.out⟩
   case measure=>simp[intOf];omega
  ·obtain rfl:k=64:=by omega
   have HO:Hid (zi wr w.heap.size 5 (.slice (some (zd og)) 64 oc) (List.replicate 64 x)):=ho;have hgb:=ho.lt og rfl;have hN:=jN _ p (at'+1) sz 64 (by omega) hB hcl (by omega) hs (hc.chg hch (by omega)) hp;have hr:=Jn code (at'+1) 64;obtain⟨q,hq⟩: ∃q:Nat,nxt code (at'+1) 64=(q:Int):=⟨(nxt code (at'+1) 64).toNat,by omega⟩;rw[hq] at hN hr;have hq64:q<64:=by have:=hr.2 (by omega);omega
   clear hq hr ho hs;have HCH:Hid (Chg p (p+1) w wr):=hch;clear hch;go_wp2_with fail;refine hN.mono ?_;rintro e w2 ⟨rfl,hs2,hc2⟩;clear hN;have sz2:=hc2.size;have HO2:Hid (zi w2 w.heap.size 5 (.slice (some (zd og)) 64 oc) (List.replicate 64 x)):=HO.out.chg hc2 (fun g hg=>by cases hg;right;show p+1≤og;omega);have HC2:Hid (Chg p (p+1) w w2):=HCH.out.trans hc2;have hN:=jN _ p (at'+1+1) sz 256 (by omega) hB hcl (by omega) hs2 (hc.chg HC2.out (by omega)) hp
   have hr:=Jn code (at'+1+1) 256;generalize nxt code (at'+1+1) 256=y at*;have hy:0≤y∧y<256:=⟨hr.1,hr.2 (by omega)⟩;clear HO HCH hc2 hs2 hr;go_wp2_with fail;refine hN.mono ?_;rintro e w3 ⟨rfl,hs3,hc3⟩;clear hN;have sz3:=hc3.size;have ho3:=HO2.out.chg hc3 (fun g hg=>by cases hg;right;show p+1≤og;omega);have HC3:Hid (Chg p (p+1) w (w3.setCell ⟨og,q,none⟩ (zb y))):=(HC2.out.trans hc3).setCell (Or.inr hgb.1) _
   obtain⟨⟨u,cu⟩,fu,ho4⟩:=ho3.store (by simp) q hq64 y;have hs4:qU (w3.setCell ⟨og,q,none⟩ (zb y)) p cv (at'+1+1+1) sz:=hs3.chg (Chg.setCell (p:=⟨og,q,none⟩) (Chg.refl og (og+1) w3) (Or.inl ⟨Nat.le_refl _,Nat.lt_succ_self _⟩) _) (Or.inl (by omega));have hY:Byt ((List.replicate 64 x).set q y):=(Byt.replicate 64 hx).set q hy;have hYl:((List.replicate 64 x).set q y).length=64:=by simp
   generalize (List.replicate 64 x).set q y=zs at*;have HZ:Hid (Byt zs∧zs.length=64):=⟨hY,hYl⟩;have HO4:Hid (zi (w3.setCell ⟨og,q,none⟩ (zb y)) w.heap.size 5 (.slice (some (zd og)) 64 oc) zs):=ho4;have hN:=ZE _ p (at'+1+1+1) sz 5 (by omega) hB hcl (by omega) hs4 (hc.chg HC3.out (by omega)) hp;generalize (nxt code (at'+1+1+1) 5==0)=ch at*;have hq':(q:Int)<64:=by omega
   have s4:(w3.setCell ⟨og,q,none⟩ (zb y)).heap.size=w3.heap.size:=by simp
   clear HO2 HC2 hc3 hs3 ho3 ho4 hY hYl hs4;go_wp2_with fail;generalize w3.setCell ⟨og,q,none⟩ (zb y)=w4 at*;refine hN.mono ?_;rintro e w5 ⟨rfl,hs5,hc5⟩;clear hN cu fu;have sz5:=hc5.size;have ho5:=HO4.out.chg hc5 (fun g hg=>by cases hg;right;show p+1≤og;omega);have HC5:Hid (Chg p (p+1) w w5):=HC3.out.trans hc5;clear HO4 HC3 hc5
   cases ch
   ·have HO5:Hid (zi w5 w.heap.size 5 (.slice (some (zd og)) 64 oc) zs):=ho5;have HS5:Hid (qU w5 p cv (at'+1+1+1+1) sz):=hs5;clear hs5 ho5;go_wp2;go_ret;exact⟨og,oc,zs,4,rfl,HZ.out.1,HZ.out.2,HO5.out,by omega,HS5.out,HC5.out⟩
   ·have HO5:Hid (zi w5 w.heap.size 5 (.slice (some (zd og)) 64 oc) zs):=ho5;have hN:=Ks _ p (at'+1+1+1+1) sz hB hcl (by omega) hs5 (hc.chg HC5.out (by omega)) hp;clear hs5 ho5;go_wp2_with fail;refine hN.mono ?_;rintro e w6 ⟨mg,ms,rfl,hM,hMl,om,hs6,hc6⟩;clear hN;have sz6:=hc6.size;have mgb:=om.lt mg rfl;have HO6:Hid (zi w6 w.heap.size 5 (.slice (some (zd og)) 64 oc) zs):=HO5.out.chg hc6 (fun g hg=>by cases hg;right;show p+1≤og;omega)
    have HC6:Hid (Chg p (p+1) w w6):=HC5.out.trans hc6;have HM:Hid (∀k,k<4→w6.cell? ⟨mg,k,none⟩=some (zb (ms.getD k 0))):=by
     intro k hk;unfold zi at om;rw[hMl] at om;rw[World.ownsRow.cellAt om k (by omega)];simp[List.getD_eq_getElem?_getD,hMl,hk]
    have HMB:Hid (∀k,0≤ms.getD k 0∧ms.getD k 0<256):=fun k=>hM.getD k;have HS6:Hid (qU w6 p cv (at'+1+1+1+1+1) sz):=hs6;clear HO5 HC5 hc6 om hs6 hM hMl;go_wp2;go_loopw [7] (fun i wr=> ∃k:Nat,k≤4∧i=za k∧(∃zs,Byt zs∧zs.length=64∧zi wr w.heap.size 5 (.slice (some (zd og)) 64 oc) zs)∧Chg og (og+1) w6 wr) (fun i _=>4-(intOf i).toNat)
    case atStart=>exact⟨0,Nat.zero_le _,rfl,⟨zs,HZ.out.1,HZ.out.2,HO6.out⟩,Chg.refl _ _ _⟩
    case round=>
     obtain⟨k,hk,rfl,⟨us,hU,hUl,ho⟩,hch⟩:=hrel;by_cases hlt:k<4
     ·have hi':(k:Int)<4:=by omega
      have hi2:(k:Int)<64:=by omega
      have c1:=hch.cell (HM.out k hlt) (by omega);have b1:=HMB.out k;obtain⟨⟨u,cu⟩,fu,ho2⟩:=ho.store hUl k (by omega) (ms.getD k 0);have HO7:Hid (∃zs,Byt zs∧zs.length=64∧zi (wr.setCell ⟨og,k,none⟩ (zb (ms.getD k 0))) w.heap.size 5 (.slice (some (zd og)) 64 oc) zs):=⟨_,hU.set k b1,by simpa using hUl,ho2⟩;have HC7:Hid (Chg og (og+1) w6 (wr.setCell ⟨og,k,none⟩ (zb (ms.getD k 0)))):=hch.setCell (Or.inl ⟨Nat.le_refl _,Nat.lt_succ_self _⟩) _
      generalize ms.getD k 0=z at*;clear ho ho2 hU hUl hch HO6 HZ;go_wp2;go_roundw
      case rel=>exact⟨k+1,by omega,by go_num,HO7.out,HC7.out⟩
      case measure=>simp[intOf];omega
     ·obtain rfl:k=4:=by omega
      have HO7:Hid (Byt us∧us.length=64∧zi wr w.heap.size 5 (.slice (some (zd og)) 64 oc) us):=⟨hU,hUl,ho⟩;have HC7:Hid (Chg p (p+1) w wr):=HC6.out.step hch (Or.inr (Or.inl hgb.1));have HS7:Hid (qU wr p cv (at'+5) sz):=HS6.out.chg hch (Or.inl (by omega));clear ho hU hUl hch HO6 HZ HM HMB HS6 HC6;go_wp2;go_ret;exact⟨og,oc,us,5,rfl,HO7.out.1,HO7.out.2.1,HO7.out.2.2,by omega,HS7.out,HC7.out⟩
theorem Chg.setCells (g:Nat): ∀(vs:List Value) (o:Nat) (w:World),Chg g (g+1) w (w.setCells g o vs)
 | [],_,_=>Chg.refl _ _ _
 |v::r,o,w=>(Chg.setCell (Chg.refl g (g+1) w) (p:=⟨g,o,none⟩) (Or.inl ⟨Nat.le_refl _,Nat.lt_succ_self _⟩) v).trans (Chg.setCells g r (o+1) _)
theorem Qb {α:Type}(L:List α)(o:Nat)(v:α)(r:List α)(h:o<L.length):splice (L.set o v) (o+1) r=splice L o (v::r):=by
 unfold splice;have e1:(L.set o v).take (o+1)=L.take o++ [v]:=by
  rw[List.take_succ_eq_append_getElem (by simpa using h),List.take_set,List.set_eq_of_length_le (by simp;omega)];simp
 have e2:(L.set o v).drop (o+1+r.length)=L.drop (o+(v::r).length):=by
  rw[List.drop_set_of_lt (by omega)];congr 1;simp only[List.length_cons];omega
 rw[e1,e2];simp
theorem jb (g:Nat)(t:TypeId): ∀(vs:List Value) (o:Nat) (w:World) (L:List Value),w.heap[g]?=some (.cells L.toArray t (0,0))→o+vs.length≤L.length→
  (w.setCells g o vs).heap[g]?=some (.cells (splice L o vs).toArray t (0,0))
 | [],o,w,L,h,_=>by simpa [World.setCells,splice] using h
 |v::r,o,w,L,h,hl=>by
  have h1:(w.setCell ⟨g,o,none⟩ v).heap[g]?=some (.cells (L.set o v).toArray t (0,0)):=by
   have:=heap_setCell_same w g o L.toArray t v h;simpa using this
  have:=jb g t r (o+1) _ (L.set o v) h1 (by simp at*;omega)
  rw[Qb L o v r (by simp at hl;omega)] at this
  exact this
theorem aba {w:World}{g:Nat}{L:List Value}{t:TypeId}(h:w.heap[g]?=some (.cells L.toArray t (0,0))):w.there g 0 L.length:=by
 intro j hj;rw[Nat.zero_add];refine⟨?_,?_⟩
 ·simp[World.cell?,h,hj]
 ·simp[World.frozen?,h]
theorem wp_store_row {P:Program}{o:Oper}{a:Act}{w:World}{K:Act→World→Prop}{Q:Exit→Act→World→Prop}(T:TypeId)(p v:Operand)(ho:o.op= .store T p v)(hd:o.dst=none)(g:Nat)(hp:a.eval p= .pointer (some (zd g)))
  (full L:List Value) (t:TypeId) (hv:a.eval v= .agg full.toArray) (hg:w.heap[g]?=some (.cells L.toArray t (0,0))) (hl:full.length=L.length) (hi:(P.info? T).map (·.size)=some full.length) (h1: ∀v∈full,v.oneCell'=true)
  (h: ∀w',w'.heap[g]?=some (.cells full.toArray t (0,0))→Chg g (g+1) w w'→K a w'):o.wp P a w K Q:=by
 have ht:w.there g 0 full.toArray.size:=by have:=aba hg;simpa [hl] using this
 refine wp_store_mid T p v ho g 0 full.toArray hp hv ht (by simpa using hi) (by rw[Array.all_eq_true_iff_forall_mem];intro x hx;exact h1 x (by simpa using hx)) ?_;rw[hd];refine h _ ?_ (Chg.setCells g _ 0 w);have:=jb g t full 0 w L hg (by omega);have e:splice L 0 full=full:=by
  unfold splice;rw[List.take_zero,List.nil_append,Nat.zero_add,List.drop_of_length_le (by omega),List.append_nil]
 rw[e] at this;exact this
theorem wpList_store_row {P:Program}{ops:Array Oper}{rest:List Oper}{op:Oper}{a:Act}{w:World}{Q:Exit→Act→World→Prop}(hgd:op.guard=none)(T:TypeId)(x y:Operand)(ho:op.op= .store T x y)(hd:op.dst=none)(g:Nat)(hx:a.eval x= .pointer (some (zd g)))
  (full L:List Value) (t:TypeId) (hy:a.eval y= .agg full.toArray) (hg:w.heap[g]?=some (.cells L.toArray t (0,0))) (hl:full.length=L.length) (hi:(P.info? T).map (·.size)=some full.length) (h1: ∀v∈full,v.oneCell'=true)
  (h: ∀w',w'.heap[g]?=some (.cells full.toArray t (0,0))→Chg g (g+1) w w'→wpList P ops Q rest a w'):wpList P ops Q (op::rest) a w:=
 wpList_plain hgd fun _ hK=>wp_store_row T x y ho hd g hx full L t hy hg hl hi h1 (fun w' h2 h3=>hK _ _ (h w' h2 h3))
end Go.Proofs.YtacjklochmelfaaGreatDoor
