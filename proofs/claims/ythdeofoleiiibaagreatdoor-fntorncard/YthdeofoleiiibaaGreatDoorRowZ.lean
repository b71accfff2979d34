import Derived.WalkKit
import Derived.Deep.QuietTactic
import Derived.BigQuiet
import Derived.Laws.CopyOwn
import Derived.Test.YthdeofoleiiibaaGreatDoorRows
import Derived.Deep.RegionWith
import Derived.Laws.AppendOwnNone
import Derived.Deep.DeepCutAuto
import Derived.Deep.MidRow
namespace Go.Proofs.YthdeofoleiiibaaGreatDoor
open Go.RowKit
set_option maxRecDepth 100000
set_option maxHeartbeats 16000000
variable {w w' a w0 b c x:World}{hi lo r A l n g lo' hi':Nat}{v cv:Value}{xs code:List Int}{e t eW eB:TypeId}{p:Prop}{P:Program}{k:IntKind}{Q:Exit→Act→World→Prop}{hd:Obj}{cur:List Value}
abbrev ze (w:World) (b:Nat) (cs:Array Value) (t:TypeId):Prop:=w.heap[b]?=some (.cells cs t (0,0))
abbrev mL:= @List.length_append
abbrev mM:= @if_pos
abbrev mN:= @if_neg
abbrev mO:= @List.length_map
abbrev mP:= @Nat.le_refl
abbrev mR:= @decide_eq_true
abbrev mS:= @IntKind.wrap_i64
abbrev mV:= @List.getD_eq_getElem?_getD
abbrev mW:= @List.length_take
abbrev mX:= @Nat.zero_le
abbrev mY:= @decide_eq_false
abbrev mZ:= @List.getElem?_eq_getElem
abbrev m5:= @Nat.lt_succ_self
abbrev m6:= @List.map_append
abbrev m7:= @List.length_cons
abbrev m8:= @List.length_drop
abbrev m9:= @List.mem_map
abbrev ni:= @Nat.zero_add
abbrev nj:= @List.getElem_mem
abbrev nk:= @List.append_assoc
abbrev np:= @World.ownsRow.lt
abbrev nu:= @List.mem_append
abbrev nw:= @List.append_nil
abbrev nz:= @Nat.le_trans
abbrev nA:= @World.ownsRow.cellAt
abbrev nC:= @List.length_replicate
abbrev nD:= @List.getElem?_eq_some_iff
abbrev nE:= @Nat.lt_of_lt_of_le
abbrev nF:= @Nat.mod_lt
abbrev nG:= @List.nil_append
abbrev nH:= @List.length_nil
abbrev nJ:= @List.length_singleton
abbrev nQ:= @World.cell?_of_block
abbrev nR:= @List.map_cons
abbrev nS:= @Option.some.injEq
abbrev nT:= @List.eq_nil_of_length_eq_zero
abbrev nU:= @List.getElem?_map
abbrev nV:= @List.take_length
abbrev nW:= @Nat.not_lt_zero
abbrev nX:= @List.flatMap_cons
abbrev nY:= @Below.heap_setCell
abbrev nZ:= @List.getElem?_append_left
abbrev oh:= @Array.toList_map
abbrev ol:= @Nat.min_eq_left
abbrev ot:= @List.mem_of_mem_take
abbrev ou:= @List.length_set
abbrev oy:= @List.take_succ_eq_append_getElem
abbrev oA:= @List.getElem?_take
abbrev oC:= @List.flatten_cons
abbrev oD:= @List.cons_append
abbrev oF:= @Nat.add_zero
abbrev oG:= @List.take_append_of_le_length
abbrev oH:= @Nat.le_succ
abbrev oI:= @List.take_zero
abbrev oJ:= @List.mem_cons
abbrev oM:= @List.getElem?_append_right
abbrev oQ:= @List.getElem?_drop
abbrev oR:= @List.map_map
abbrev oU:= @Below.heap_alloc
abbrev oZ:= @List.drop_of_length_le
abbrev pd:= @Int.le_refl
abbrev pf:= @Nat.sub_self
abbrev pm:= @Nat.add_assoc
abbrev pp:= @List.drop_eq_nil_of_le
abbrev pq:= @List.mem_range
abbrev pw:= @Int.emod_nonneg
abbrev px:= @Int.emod_lt_of_pos
abbrev pA:= @List.size_toArray
abbrev pC:= @Option.some.inj
abbrev pI:= @Nat.add_sub_cancel_left
abbrev pJ:= @decide_eq_true_eq
abbrev pK:= @List.drop_drop
abbrev pL:= @Array.replicate_succ
abbrev pM:= @Array.replicate_zero
abbrev pO:= @List.push_toArray
abbrev pP:= @List.append_toArray
abbrev pQ:= @List.range_succ
abbrev pS:= @List.getElem?_set_ne
abbrev pU:= @List.map_nil
abbrev pW:= @List.flatMap_append
abbrev pY:= @List.drop_append
abbrev pZ:= @Nat.zero_mul
abbrev p8:= @List.ext_getElem
abbrev ri:= @Nat.lt_or_ge
abbrev ru:= @Nat.add_comm
abbrev ry:= @Nat.mul_comm
abbrev rC:= @List.ext_getElem?
abbrev rF:= @Array.getElem?_eq_some_iff
abbrev rG:= @World.ownsRow_nil
abbrev rH:= @Array.getElem?_modify
abbrev rI:= @List.getElem?_toArray
abbrev rK:= @List.replicate_zero
abbrev rN:= @List.foldl_cons
abbrev rP:= @List.flatten_append
abbrev rT:= @List.map_set
abbrev rU:= @List.eq_of_mem_replicate
abbrev rW:= @Int.pow_succ
abbrev rX:= @Array.length_toList
abbrev rY:= @Nat.pow_succ
abbrev rZ:= @Array.ext'
abbrev r7:= @List.mem_iff_getElem
abbrev si:= @List.take_append_drop
abbrev sj:= @List.drop_left
abbrev ss:= @Nat.div_le_self
abbrev su:= @List.mem_or_eq_of_mem_set
abbrev sx:= @List.mem_replicate
abbrev sy:= @List.map_replicate
abbrev sE:= @Int.le_of_lt
abbrev sG:= @List.set_append
abbrev sJ:= @Int.mul_ediv_add_emod
abbrev sN:= @List.drop_zero
abbrev sO:= @List.take_add_one
abbrev sP:= @List.getD_cons_succ
abbrev sQ:= @List.getElem?_cons_succ
abbrev sU:= @Nat.add_mod_right
abbrev td:= @Array.mk.injEq
abbrev tf:= @ownsRow_setCell_other
abbrev tj:= @List.getElem?_eq_none
abbrev tm:= @Array.all_eq_true_iff_forall_mem
abbrev tp:= @Nat.div_div_eq_div_mul
abbrev tu:= @List.drop_replicate
abbrev tD:= @Nat.add_sub_cancel
abbrev tF:= @Int.eq_ofNat_of_zero_le
abbrev tG:= @List.getElem?_set_self
abbrev tH:= @List.drop_eq_getElem_cons
structure qj (w w':World):Prop where
 heap:w'.heap=w.heap
 os:w'.os=w.os
 tape:w'.tape=w.tape
 output:w'.output=w.output
abbrev zg (b n c:Nat):Value:= .slice (some ⟨b,0,none⟩) n c
abbrev zj (a:Option Addr) (n c:Nat):Value:= .slice a n c
abbrev zh (b:Nat):Value:= .pointer (some ⟨b,0,none⟩)
abbrev zi (cs:Array Value) (t:TypeId):Obj:= .cells cs t (0,0)
abbrev za (x:Int):Value:= .int .i64 x
abbrev zb (x:Int):Value:= .int .u8 x
abbrev zc:Value:= .slice none 0 0
abbrev zd (b:Nat):Addr:=⟨b,0,none⟩
theorem zk (h:p:=by omega):p:=h
theorem zl (h:p:=by kernel_rfl):p:=h
theorem zm (h:p:=by go_simp):p:=h
theorem zn (h:p:=by simp):p:=h
theorem zp (h:p:=by decide):p:=h
theorem zq (h:p:=by first|kernel_rfl|go_simp):p:=h
theorem nlR :n≤n:=mP n
theorem zE {α:Type}{xs:Array α}{i:Nat}{x:α}(h:xs[i]?=some x):i<xs.size:=(rF.1 h).1
theorem qj.refl (w:World):qj w w:=⟨rfl,rfl,rfl,rfl⟩
theorem qj.trans (h:qj a b)(k:qj b c):qj a c:=⟨k.heap.trans h.heap,k.os.trans h.os,k.tape.trans h.tape,k.output.trans h.output⟩
theorem qj.drewN (h:qj a b)(n:Nat):qj a (b.drewN n):=⟨h.heap,h.os,h.tape,h.output⟩
theorem qj.drew (h:qj a b):qj a b.drew:=⟨h.heap,h.os,h.tape,h.output⟩
theorem qj.cell (h:qj a b)(p:Addr):b.cell? p=a.cell? p:=nQ (by rw[h.heap])
structure zr (lo hi:Nat)(w w':World):Prop where
 os:w'.os=w.os
 tape:w'.tape=w.tape
 output:w'.output=w.output
 size:w.heap.size≤w'.heap.size
 block: ∀k,k<w.heap.size→k<lo∨hi≤k→w'.heap[k]?=w.heap[k]?
theorem zr.bk (c:zr lo hi w w')(k:Nat)(h:k<w.heap.size:=by omega)(d:k<lo∨hi≤k:=by omega):w'.heap[k]?=w.heap[k]?:=c.block k h d
theorem zr.bt (c:zr lo hi w w'){k:Nat}{y:Option Obj}(e:w.heap[k]?=y)(h:k<w.heap.size:=by omega)(d:k<lo∨hi≤k:=by omega):w'.heap[k]?=y:=(c.block k h d).trans e
theorem zr.refl (lo hi:Nat)(w:World):zr lo hi w w:=⟨rfl,rfl,rfl,mP _,fun _ _ _=>rfl⟩
theorem zr.trans (h:zr lo hi a b)(k:zr lo hi b c):zr lo hi a c:=
 ⟨k.os.trans h.os,k.tape.trans h.tape,k.output.trans h.output,nz h.size k.size,fun i hi d=>(k.block i (nE hi h.size) d).trans (h.block i hi d)⟩
theorem qj.chg (h:qj w w')(lo hi:Nat):zr lo hi w w':=⟨h.os,h.tape,h.output,by rw[h.heap];exact mP _,fun _ _ _=>by rw[h.heap]⟩
theorem zr.widen (h:zr lo hi w w')(a:lo'≤lo∨hi≤lo:=by omega)(b:hi≤hi'∨hi≤lo:=by omega):zr lo' hi' w w':=
 ⟨h.os,h.tape,h.output,h.size,fun k c d=>h.bk k c⟩
theorem zr.alloc (h:zr lo hi a w)(o:Obj):zr lo hi a (w.alloc o):=
 h.trans ⟨rfl,rfl,rfl,zn,fun k b _=>oU _ _ _ b⟩
theorem zr.al (w:World){o:Obj}:zr 0 0 w (w.alloc o):=zr.alloc (zr.refl 0 0 w) o
theorem zr.setCell (h:zr lo hi a w){p:Addr}(d:(lo≤p.block∧p.block<hi)∨a.heap.size≤p.block)(u:Value):zr lo hi a (w.setCell p u):=
 ⟨h.os,h.tape,h.output,by simpa [World.setCell] using h.size,fun k b c=>(nY _ _ _ _ zk).trans (h.block k b c)⟩
theorem zr.drew (h:zr lo hi a w):zr lo hi a w.drew:=⟨h.os,h.tape,h.output,h.size,h.block⟩
theorem zr.drewN (h:zr lo hi a w)(n:Nat):zr lo hi a (w.drewN n):=⟨h.os,h.tape,h.output,h.size,h.block⟩
theorem zr.below (h:zr lo hi w w')(e:hi≤lo∨w.heap.size≤lo):Below w.heap.size w w':=⟨h.os,h.tape,h.output,h.size,fun k a=>h.bk k a⟩
theorem zr.ofBelow (h:Below w.heap.size w w')(lo hi:Nat):zr lo hi w w':=⟨h.os,h.tape,h.output,h.size,fun k a _=>h.block k a⟩
theorem zr.ofGrown {row:Option Nat}(h:w.grownBy w' row)(b: ∀k,row=some k→k<w.heap.size→lo≤k∧k<hi):zr lo hi w w':=
 ⟨h.os,h.tape,h.output,h.size,fun k a c=>h.block k a (fun e=>by have:=b k e.symm a;omega)⟩
theorem zr.step (h:zr lo hi a b)(k:zr l r b c)(e:(lo≤l∧r≤hi)∨a.heap.size≤l∨r≤l:=by omega):zr lo hi a c:=
 ⟨k.os.trans h.os,k.tape.trans h.tape,k.output.trans h.output,nz h.size k.size,fun i hi' d=>(k.bk i (nE hi' h.size)).trans (h.block i hi' d)⟩
theorem zV {b o:Nat}{x:Value}(h:w.cell? ⟨b,o,none⟩=some x):b<w.heap.size:=by
 rcases ri b w.heap.size with h'|h'
 ·exact h'
 ·rw[World.cell?,Array.getElem?_eq_none h'] at h;cases h
theorem zr.cell (h:zr lo hi w w'){b o:Nat}{x:Value}(c:w.cell? ⟨b,o,none⟩=some x)(d:b<lo∨hi≤b:=by omega):w'.cell? ⟨b,o,none⟩=some x:=
 (nQ (a:=⟨b,o,none⟩) (h.block b (zV c) d)).trans c
theorem zr.set2 (w:World)(s:Nat)(a b:Value):zr s (s+1) w ((w.setCell ⟨s,0,none⟩ a).setCell ⟨s,1,none⟩ b):=
 zr.setCell (zr.setCell (zr.refl _ _ _) (p:=⟨s,0,none⟩) (Or.inl ⟨mP _,m5 _⟩) a) (p:=⟨s,1,none⟩) (Or.inl ⟨mP _,m5 _⟩) b
theorem zw {s:Nat}{a b:Value}(h:w.heap[s]?=some (.cells #[a,b] t (0,0))):
  w.cell? ⟨s,0,none⟩=some a∧w.cell? ⟨s,1,none⟩=some b∧w.frozen? ⟨s,0,none⟩=false∧w.frozen? ⟨s,1,none⟩=false:=by
 simp[World.cell?,World.frozen?,h]
theorem zt (w:World)(o:Obj):(w.alloc o).heap[w.heap.size]?=some o:=by
 show(w.heap.push o)[w.heap.size]?=_;simp
theorem JZ (w:World)(a b c:Obj):(((w.alloc a).alloc b).alloc c).heap.size=w.heap.size+3∧(((w.alloc a).alloc b).alloc c).heap[w.heap.size]?=some a∧
  (((w.alloc a).alloc b).alloc c).heap[w.heap.size+1]?=some b∧(((w.alloc a).alloc b).alloc c).heap[w.heap.size+1+1]?=some c:=by
 have d:(w.alloc a).heap.size=w.heap.size+1:=zn;have e:((w.alloc a).alloc b).heap.size=w.heap.size+1+1:=zn;refine⟨zn,?_,?_,?_⟩
 ·rw[oU _ _ _ zk,oU _ _ _ zk];exact zt _ _
 ·rw[oU _ _ _ zk,←d];exact zt _ _
 ·rw[←e];exact zt _ _
theorem zU (w:World)(a b:Obj):((w.alloc a).alloc b).heap.size=w.heap.size+2∧((w.alloc a).alloc b).heap[w.heap.size]?=some a∧
  ((w.alloc a).alloc b).heap[w.heap.size+1]?=some b:=by
 have c:(w.alloc a).heap.size=w.heap.size+1:=zn;refine⟨zn,?_,?_⟩
 ·rw[oU _ _ _ zk];exact zt _ _
 ·rw[←c];exact zt _ _
def zC (w:World) (lo hi:Nat) (k:IntKind) (v:Value) (xs:List Int):Prop:=
 ∃ao cap,v= .slice ao xs.length cap∧xs.length≤9223372036854775807∧(xs.length≤cap∧(ao=none→cap=0))∧
  (xs= []∨ ∃b off,ao=some ⟨b,off,none⟩∧lo≤b∧b<hi∧ ∀i,i<xs.length→w.cell? ⟨b,off+i,none⟩=some (.int k (xs.getD i 0)))
theorem zC.chg (h:zC w lo hi k v xs)(c:zr l r w w')(d:hi≤l∨r≤lo∨r≤l):zC w' lo hi k v xs:=by
 obtain⟨e,cap,m,j,g,h⟩:=h;refine⟨e,cap,m,j,g,?_⟩;rcases h with h|⟨b,a,f,h1,h2,h3⟩
 ·exact Or.inl h
 ·exact Or.inr ⟨b,a,f,h1,h2,fun i hi=>c.cell (h3 i hi)⟩
theorem zC.mono (h:zC w lo hi k v xs)(a:lo'≤lo)(b:hi≤hi'):zC w lo' hi' k v xs:=by
 obtain⟨d,cap,i,g,f,h⟩:=h;refine⟨d,cap,i,g,f,?_⟩;rcases h with h|⟨x,c,e,h1,h2,h3⟩
 ·exact Or.inl h
 ·exact Or.inr ⟨x,c,e,zk,zk,h3⟩
theorem zC.nil (w:World)(lo hi:Nat)(k:IntKind):zC w lo hi k (.slice none 0 0) []:=⟨none,0,rfl,zn,⟨zn,zn⟩,Or.inl rfl⟩
abbrev Wr:Type:=Int×List Int
def qW (w:World) (lo hi:Nat) (v:Value) (ps:List Wr):Prop:=
 ∃ao cap,v= .slice ao ps.length cap∧ps.length≤9223372036854775807∧ps.length≤cap∧
  (ps= []∨ ∃b off,ao=some ⟨b,off,none⟩∧lo≤b∧b<hi∧ ∀i,i<ps.length→ ∃dv,
   w.cell? ⟨b,off+i*2,none⟩=some (.int .i64 (ps.getD i (0,[])).1)∧w.cell? ⟨b,off+i*2+1,none⟩=some dv∧zC w lo hi .u8 dv (ps.getD i (0,[])).2)
theorem qW.chg {ps:List Wr}(h:qW w lo hi v ps)(c:zr l r w w')(d:hi≤l∨r≤lo∨r≤l):qW w' lo hi v ps:=by
 obtain⟨e,cap,o,n,m,h⟩:=h;refine⟨e,cap,o,n,m,?_⟩;rcases h with h|⟨b,a,k,h1,h2,h3⟩
 ·exact Or.inl h
 ·refine Or.inr ⟨b,a,k,h1,h2,fun i hi=>?_⟩;obtain⟨j,f,g,p⟩:=h3 i hi;exact⟨j,c.cell f,c.cell g,p.chg c d⟩
theorem qW.mono {ps:List Wr}(h:qW w lo hi v ps)(a:lo'≤lo)(b:hi≤hi'):qW w lo' hi' v ps:=by
 obtain⟨d,cap,m,l,k,h⟩:=h;refine⟨d,cap,m,l,k,?_⟩;rcases h with h|⟨x,c,j,h1,h2,h3⟩
 ·exact Or.inl h
 ·refine Or.inr ⟨x,c,j,zk,zk,fun i hi=>?_⟩;obtain⟨g,e,f,n⟩:=h3 i hi;exact⟨g,e,f,n.mono a b⟩
theorem qW.nil (w:World)(lo hi:Nat):qW w lo hi (.slice none 0 0) []:=⟨none,0,rfl,zn,zn,Or.inl rfl⟩
structure Dsk where
 dR:List Int
 pN:List Wr
def Zw (w:World) (lo hi:Nat) (v:Value) (d:Dsk):Prop:= ∃dv pv,v= .agg #[dv,pv]∧zC w lo hi .u8 dv d.dR∧qW w lo hi pv d.pN
theorem Zw.chg {d:Dsk}(h:Zw w lo hi v d)(c:zr l r w w')(e:hi≤l∨r≤lo∨r≤l):Zw w' lo hi v d:=by
 obtain⟨a,f,b,h1,h2⟩:=h;exact⟨a,f,b,h1.chg c e,h2.chg c e⟩
theorem Zw.mono {d:Dsk}(h:Zw w lo hi v d)(a:lo'≤lo)(b:hi≤hi'):Zw w lo' hi' v d:=by
 obtain⟨c,f,e,h1,h2⟩:=h;exact⟨c,f,e,h1.mono a b,h2.mono a b⟩
def zu (w:World) (base:Nat) (e:TypeId) (v:Value) (xs:List Int):Prop:=w.ownsRow base e 1 v xs.length (xs.map (Value.int .u8))
theorem zu.view {base:Nat}(h:zu w base e v xs)(j:xs.length≤9223372036854775807)(c: ∀g,v.ownBlock=some g→g<hi):zC w base hi .u8 v xs:=by
 have b:=h;obtain⟨_,h2⟩:=h;rcases h2 with⟨rfl,h0⟩|⟨g,cap,a,rfl,f,k,d,l,hs,m⟩
 ·obtain rfl:xs= []:=nT h0;exact zC.nil _ _ _ _
 ·refine⟨_,cap,rfl,j,⟨d,zn⟩,?_⟩;refine Or.inr ⟨g,0,rfl,f,c g rfl,fun i hi=>?_⟩;have:=nA b i (by simpa using hi);rw[ni,this];simp[hi]
theorem zu.chg {base:Nat}(h:zu w base e v xs)(c:zr l r w w')(d: ∀g,v.ownBlock=some g→g<l∨r≤g):zu w' base e v xs:=by
 obtain⟨h1,h2⟩:=h;refine⟨h1,?_⟩;rcases h2 with h2|⟨g,cap,a,f,i,b,r⟩
 ·exact Or.inl h2
 ·refine Or.inr ⟨g,cap,a,f,i,?_,r⟩;rw[c.block g (zE b) (d g (by rw[f];rfl))];exact b
theorem zu.base {base base':Nat}(h:zu w base e v xs)(c: ∀g,v.ownBlock=some g→base'≤g:=by omega):zu w base' e v xs:=by
 obtain⟨h1,h2⟩:=h;refine⟨h1,?_⟩;rcases h2 with h2|⟨g,cap,a,b,f,d,r⟩
 ·exact Or.inl h2
 ·exact Or.inr ⟨g,cap,a,b,c g (by rw[b];rfl),d,r⟩
theorem zu.set {base:Nat}(h:zu w base e v xs){p:Addr}(a:v.ownBlock≠some p.block)(u:Value):zu (w.setCell p u) base e v xs:=tf h a u
theorem zu.lt {base:Nat}(h:zu w base e v xs): ∀g,v.ownBlock=some g→base≤g∧g<w.heap.size:=np h
theorem zu.elem {base:Nat}(h:zu w base e v xs)(b:v.ownBlock=some g): ∃a,w.heap[g]?=some (.cells a e (0,0)):=by
 obtain⟨_,h2⟩:=h;rcases h2 with⟨rfl,_⟩|⟨d,cap,a,rfl,_,c,_⟩
 ·cases b
 ·cases b;exact⟨a,c⟩
structure Z6 (w:World)(base:Nat)(eW eB:TypeId)(v:Value)(ps:List Wr)(cells:List Value)(dvs:Nat→Value):Prop where
 row:w.ownsRow base eW 2 v ps.length cells
 at0: ∀i,i<ps.length→cells[i*2]?=some (.int .i64 (ps.getD i (0,[])).1)
 at1: ∀i,i<ps.length→cells[i*2+1]?=some (dvs i)
 data: ∀i,i<ps.length→zu w base eB (dvs i) (ps.getD i (0,[])).2
 apart: ∀i j g,i<j→j<ps.length→(dvs i).ownBlock=some g→(dvs j).ownBlock≠some g
theorem Z6.chg {base:Nat}{ps:List Wr}{cells:List Value}{dvs:Nat→Value}(h:Z6 w base eW eB v ps cells dvs)(c:zr l r w w')
  (d: ∀g,v.ownBlock=some g→g<l∨r≤g) (f: ∀i g,i<ps.length→(dvs i).ownBlock=some g→g<l∨r≤g):Z6 w' base eW eB v ps cells dvs:=by
 refine⟨?_,h.at0,h.at1,fun i hi=>(h.data i hi).chg c (f i · hi),h.apart⟩;obtain⟨h1,h2⟩:=h.row;refine⟨h1,?_⟩;rcases h2 with h2|⟨g,cap,a,e,j,b,r⟩
 ·exact Or.inl h2
 ·refine Or.inr ⟨g,cap,a,e,j,?_,r⟩;rw[c.block g (zE b) (d g (by rw[e];rfl))];exact b
theorem Z6.view {base:Nat}{ps:List Wr}{cells:List Value}{dvs:Nat→Value}(h:Z6 w base eW eB v ps cells dvs)
  (o:ps.length≤9223372036854775807) (j: ∀i,i<ps.length→(ps.getD i (0,[])).2.length≤9223372036854775807)  (l: ∀g,v.ownBlock=some g→g<hi)
  (f: ∀i g,i<ps.length→(dvs i).ownBlock=some g→g<hi):qW w base hi v ps:=by
 obtain⟨c,d,e,b,_⟩:=h;have a:=c;obtain⟨_,h2⟩:=c;rcases h2 with⟨rfl,h0⟩|⟨g,cap,k,rfl,n,p,m,q,hs,r⟩
 ·obtain rfl:ps= []:=nT h0;exact qW.nil _ _ _
 ·refine⟨_,cap,rfl,o,m,Or.inr ⟨g,0,rfl,n,l g rfl,fun i hi=>⟨dvs i,?_,?_,(b i hi).view (j i hi) (f i · hi)⟩⟩⟩
  ·rw[ni,nA a (i*2) zk];exact d i hi
  ·rw[ni,nA a (i*2+1) zk];exact e i hi
structure mn (w:World)(lo hi:Nat)(eW eB:TypeId)(v:Value)(d:Dsk)(dv pv:Value)(cells:List Value)(dvs:Nat→Value):Prop where
 agg:v= .agg #[dv,pv]
 dR:zu w lo eB dv d.dR
 pN:Z6 w lo eW eB pv d.pN cells dvs
 apart: ∀i g,i<d.pN.length→dv.ownBlock=some g→(dvs i).ownBlock≠some g
 hiD: ∀g,dv.ownBlock=some g→g<hi
 hiP: ∀g,pv.ownBlock=some g→g<hi
 hiX: ∀i g,i<d.pN.length→(dvs i).ownBlock=some g→g<hi
def qK (w:World) (lo hi:Nat) (eW eB:TypeId) (v:Value) (d:Dsk):Prop:= ∃dv pv cells dvs,mn w lo hi eW eB v d dv pv cells dvs
structure Dsk.Fits (d:Dsk):Prop where
 dR:d.dR.length≤140737488355328
 pN:d.pN.length≤140737488355328
 data: ∀i,i<d.pN.length→(d.pN.getD i (0,[])).2.length≤140737488355328
theorem qK.view {d:Dsk}(h:qK w lo hi eW eB v d)(b:d.Fits):Zw w lo hi v d:=by
 obtain⟨c,f,a,e,h⟩:=h;exact⟨c,f,h.agg,h.dR.view (by have:=b.dR;omega) h.hiD,h.pN.view (by have:=b.pN;omega) (fun i hi=>by have:=b.data i hi;omega) h.hiP h.hiX⟩
theorem zF {base:Nat}{size:Nat}{xs:List Value}(h:w.ownsRow base e size v n xs): ∃a l c,v= .slice a l c:=by
 rcases h.2 with⟨rfl,_⟩|⟨g,cap,b,rfl,_⟩
 ·exact⟨_,_,_,rfl⟩
 ·exact⟨_,_,_,rfl⟩
theorem qK.agg {d:Dsk}(h:qK w lo hi eW eB v d): ∃a l c b f e,v= .agg #[.slice a l c,.slice b f e]:=by
 obtain⟨g,i,_,_,h⟩:=h;obtain⟨a,l,c,h1⟩:=zF h.dR;obtain⟨b,f,e,h2⟩:=zF h.pN.row;exact⟨a,l,c,b,f,e,by rw[h.agg,h1,h2]⟩
theorem qK.chg {d:Dsk}(h:qK w lo hi eW eB v d)(c:zr l r w w')(e:hi≤l∨r≤lo∨r≤l):qK w' lo hi eW eB v d:=by
 obtain⟨j,k,b,f,h⟩:=h;have m: ∀g,j.ownBlock=some g→g<l∨r≤g:=fun g a=>by have:=h.hiD g a;have:=h.dR.lt g a;omega
 have n: ∀g,k.ownBlock=some g→g<l∨r≤g:=fun g a=>by have:=h.hiP g a;have:=np h.pN.row g a;omega
 have o: ∀i g,i<d.pN.length→(f i).ownBlock=some g→g<l∨r≤g:=fun i g hi a=>by have:=h.hiX i g hi a;have:=(h.pN.data i hi).lt g a;omega
 exact⟨j,k,b,f,h.agg,h.dR.chg c m,h.pN.chg c n o,h.apart,h.hiD,h.hiP,h.hiX⟩
theorem lu {a b:Int}(h:a=b:=by omega):Ending.returned (.int k a)= .returned (.int k b):=by rw[h]
def marks (k n:Nat):List Int:=(List.range n).map fun i=>((k+i:Nat):Int) % 256
def cnt (ps:List Wr):Nat:=(ps.map fun p=>p.2.length+1).sum
theorem gQ (ps:List Wr):ps.length≤cnt ps:=by
 unfold cnt
 induction ps with
 |nil=>simp
 |cons p r ih=>simp at*;omega
def Dsk.none:Dsk:=⟨[],[]⟩
theorem zu.nil (w:World)(base:Nat)(e:TypeId):zu w base e (.slice Option.none 0 0) []:=rG _ _ _ _
theorem Z6.nil (w:World)(base:Nat)(b a:TypeId):Z6 w base b a (.slice Option.none 0 0) [] [] (fun _=> .slice Option.none 0 0):=
 ⟨rG _ _ _ _,zn,zn,zn,zn⟩
theorem qK.none (w:World)(lo hi:Nat)(b a:TypeId):qK w lo hi b a (.agg #[.slice Option.none 0 0,.slice Option.none 0 0]) Dsk.none:=
 ⟨_,_,[],_,rfl,zu.nil _ _ _,Z6.nil _ _ _ _,by simp[Dsk.none],by simp[Value.ownBlock],by simp[Value.ownBlock],by simp[Dsk.none]⟩
abbrev rj:= @List.mem_of_mem_drop
def Byt (xs:List Int):Prop:= ∀x∈xs,0≤x∧x<256
theorem Byt.getD (h:Byt xs)(k:Nat):0≤xs.getD k 0∧xs.getD k 0<256:=by
 rw[mV];by_cases a:k<xs.length
 ·rw[mZ a];exact h _ (nj a)
 ·rw[tj zk];simp
theorem Ee (h: ∀x∈xs,(Lit.int .u8 x).wf=true):Byt xs:=by
 intro x a;have h1:=h x a;have h2:IntKind.u8.min≤x∧x≤IntKind.u8.max:=by simpa [Lit.wf] using h1
 have b:IntKind.u8.min=0:=zp;have c:IntKind.u8.max=255:=zp;omega
theorem Byt.take (h:Byt xs)(n:Nat):Byt (xs.take n):=fun x a=>h x (ot a)
theorem Byt.drop (h:Byt xs)(n:Nat):Byt (xs.drop n):=fun x a=>h x (rj a)
def jE (w:World) (p:Nat) (cv:Value) (at' sz:Nat):Prop:=w.heap[p]?=some (.cells #[cv,.int .i64 at',.int .i64 sz] 188 (0,0))
theorem jE.chg {p:Nat}{sz:Nat}(h:jE w p cv n sz)(c:zr l r w w')(d:p<l∨r≤p):jE w' p cv n sz:=
 (c.block p (zE h) d).trans h
theorem aM {s:Nat}{a b c:Value}(h:w.heap[s]?=some (.cells #[a,b,c] t (0,0))):
  w.cell? ⟨s,0,none⟩=some a∧w.cell? ⟨s,1,none⟩=some b∧w.cell? ⟨s,2,none⟩=some c∧w.frozen? ⟨s,0,none⟩=false∧w.frozen? ⟨s,1,none⟩=false∧w.frozen? ⟨s,2,none⟩=false:=by
 simp[World.cell?,World.frozen?,h]
theorem jE.next {p:Nat}{sz:Nat}(h:jE w p cv n sz):jE (w.setCell ⟨p,1,none⟩ (.int .i64 ((n:Int)+1))) p cv (n+1) sz:=by
 unfold jE at*;simp only[World.setCell,rH,h,if_true,Option.map_some];rfl
def nxt (code:List Int) (at':Nat) (n:Int):Int:=
 if n<1 then 0 else if code.length=0 then((at':Int)*7) % n else
  (if n>200 then(code.getD (at' % code.length) 0+((at'/code.length:Nat):Int)*37)*251+code.getD ((at'+1) % code.length) 0*13+at' else code.getD (at' % code.length) 0+((at'/code.length:Nat):Int)*37) % n
theorem Xu (a:List Int)(b:Nat)(n:Int):0≤nxt a b n∧(1≤n→nxt a b n<n):=by
 unfold nxt;split
 ·omega
 ·rename_i h;split
  ·exact⟨pw _ zk,fun _=>px _ zk⟩
  ·exact⟨pw _ zk,fun _=>px _ zk⟩
theorem ZA (w:World)(p a sz:Nat)(n:Int)(hn:n≤9223372036854775807)(v:Byt code)(L:code.length≤1048600)(H:a≤1099511627776)
  (hs:jE w p cv a sz) (K:zC w lo hi .u8 cv code) (hp:p<lo∨hi≤p):
  Calls Tryz.prog 106 #[.pointer (some ⟨p,0,none⟩),.int .i64 n] w fun e w'=>e= .returned (.int .i64 (nxt code a n))∧jE w' p cv (a+1) sz∧zr p (p+1) w w':=by
 obtain⟨V,G,W,f0,f1,f2⟩:=aM hs;have HS:Hid (jE (w.setCell ⟨p,1,none⟩ (.int .i64 ((a:Int)+1))) p cv (a+1) sz):=hs.next;have t:Hid (zr p (p+1) w (w.setCell ⟨p,1,none⟩ (.int .i64 ((a:Int)+1)))):=zr.setCell (p:=⟨p,1,none⟩) (zr.refl p (p+1) w) (Or.inl ⟨mP _,m5 _⟩) _;obtain⟨F,cap,rfl,hl,⟨B,E⟩,c⟩:=K;have N:w.cell? ⟨p,1,none⟩≠none:=by rw[G];simp
 clear hs;by_cases o:n<1
 ·have q:Hid (nxt code a n=0):=by show _=_;unfold nxt;rw[mM o]
  rw[q.out];go_enter Tryz.func106,Tryz.ntmps106;go_wp2;go_ret;exact⟨rfl,HS,t⟩
 ·by_cases r:code.length=0
  ·have q:Hid (nxt code a n=((a:Int)*7) % n):=by show _=_;unfold nxt;rw[mN o,mM r]
   rw[q.out];have x:((code.length:Int)==0)=true:=by rw[r];rfl
   have y: ¬n=0:=zk;clear c r;go_enter Tryz.func106,Tryz.ntmps106;go_wp2;go_ret;exact⟨rfl,HS,t⟩
  ·obtain⟨b,d,rfl,I,J,m⟩: ∃b d,F=some ⟨b,d,none⟩∧lo≤b∧b<hi∧ ∀i,i<code.length→w.cell? ⟨b,d+i,none⟩=some (.int .u8 (code.getD i 0)):=by
    rcases c with h|⟨b,d,e,h1,h2,h3⟩
    ·rw[h] at r;exact absurd rfl r
    ·exact⟨b,d,e,h1,h2,h3⟩
   have x:((code.length:Int)==0)=false:=by simp only[beq_eq_false_iff_ne,ne_eq];omega
   have M: ¬(code.length:Int)=0:=zk;have y: ¬n=0:=zk;have O:b≠p:=zk;obtain⟨f,j⟩: ∃f,f=a % code.length:=⟨_,rfl⟩;obtain⟨g,k⟩: ∃g,g=(a+1) % code.length:=⟨_,rfl⟩;obtain⟨s,u⟩: ∃s,s=a/code.length:=⟨_,rfl⟩;have P:f<code.length:=by rw[j];exact nF _ zk
   have Q:g<code.length:=by rw[k];exact nF _ zk
   have lq:s≤a:=by rw[u];exact ss _ _
   have X:(a:Int) % (code.length:Int)=(f:Int):=by rw[j];omega
   have Y:((a:Int)+1) % (code.length:Int)=(g:Int):=by rw[k];exact(Int.natCast_emod (a+1) code.length).symm
   have Z:(a:Int)/ (code.length:Int)=(s:Int):=by rw[u];omega
   have z:=m f P;have A:=m g Q;have T:=v.getD f;have U:=v.getD g;have q:Hid (nxt code a n=(if n>200 then(code.getD f 0+(s:Int)*37)*251+code.getD g 0*13+a else code.getD f 0+(s:Int)*37) % n):=by
    show _=_;unfold nxt;rw[mN o,mN r,←j,←k,←u]
   rw[q.out];generalize code.getD f 0=R at*;generalize code.getD g 0=S at*;clear j k u m c q v;have C:(f:Int)<(code.length:Int):=zk;have D:(g:Int)<(code.length:Int):=zk;have z:(w.setCell ⟨p,1,none⟩ (.int .i64 ((a:Int)+1))).cell? ⟨b,d+f,none⟩=some (.int .u8 R):=(World.cell?_setCell_other _ _ _ _ zn).trans z;have A:(w.setCell ⟨p,1,none⟩ (.int .i64 ((a:Int)+1))).cell? ⟨b,d+g,none⟩=some (.int .u8 S):=(World.cell?_setCell_other _ _ _ _ zn).trans A
   by_cases l:n>200
   ·rw[mM l];go_enter Tryz.func106,Tryz.ntmps106;go_wp2;go_quiet (fail);go_wp2;go_quiet (fail);go_wp2;go_ret;exact⟨rfl,HS,t.drewN _⟩
   ·rw[mN l];go_enter Tryz.func106,Tryz.ntmps106;go_wp2;go_quiet (fail);go_wp2;go_ret;exact⟨rfl,HS,t.drewN _⟩
theorem VN (w:World)(a:Option Addr)(n cap:Nat)(f:n≤9223372036854775807):
  Calls Tryz.prog 67 #[.slice a n cap] w fun e w'=>e= .returned (.pointer (some ⟨w.heap.size,0,none⟩))∧jE w' w.heap.size (.slice a n cap) 0 (min (n/16) 12)∧zr 0 0 w w':=by
 have C:zr 0 0 w (w.alloc (.cells #[.slice a n cap,.int .i64 ((0:Nat):Int),.int .i64 ((min (n/16) 12:Nat):Int)] 188)):=zr.al w;have N:=zt w (.cells #[.slice a n cap,.int .i64 ((0:Nat):Int),.int .i64 ((min (n/16) 12:Nat):Int)] 188);by_cases h:12<n/16
 ·have d:(n:Int)/16>12:=zk;rw[Nat.min_eq_right zk] at*;go_enter Tryz.func67,Tryz.ntmps67;go_wp2;go_ret;exact⟨rfl,N,C⟩
 ·have d: ¬(n:Int)/16>12:=zk;have e:(n:Int)/16=((n/16:Nat):Int):=zk;rw[ol zk] at*;have c:Hid ((w.alloc (.cells #[.slice a n cap,.int .i64 ((0:Nat):Int),.int .i64 ((n/16:Nat):Int)] 188)).heap[w.heap.size]?=some (.cells #[.slice a n cap,.int .i64 ((0:Nat):Int),.int .i64 ((n/16:Nat):Int)] 188 (0,0))):=N;have b:Hid _:=C;clear N C e;go_enter Tryz.func67,Tryz.ntmps67;go_wp2;go_ret;exact⟨rfl,c,b⟩
theorem Qx (w:World)(p a sz:Nat)(n:Int)(o:n≤9223372036854775807)(l:Byt code)(j:code.length≤1048600)(i:a≤1099511627776)
  (hs:jE w p cv a sz) (m:zC w lo hi .u8 cv code) (q:p<lo∨hi≤p):
  Calls Tryz.prog 107 #[.pointer (some ⟨p,0,none⟩),.int .i64 n] w fun e w'=>e= .returned (.bool (nxt code a n==0))∧jE w' p cv (a+1) sz∧zr p (p+1) w w':=by
 go_enter Tryz.func107,Tryz.ntmps107;go_wp2_with fail;refine(ZA _ p a sz n o l j i hs m q).mono ?_;rintro e r ⟨rfl,d,c⟩;have HS:Hid (jE r p cv (a+1) sz):=d;clear d hs;by_cases h:nxt code a n=0
 ·have b:Hid ((nxt code a n==0)=true):=by show _=_;rw[h];rfl
  have k:(nxt code a n==0)=true:=b.out;generalize f:nxt code a n=x at*;clear h;have g:Hid (nxt code a n=x):=f;clear f;go_wp2;go_ret;exact⟨by rw[g.out,b.out];rfl,HS,c⟩
 ·have b:Hid ((nxt code a n==0)=false):=by show _=_;simp only[beq_eq_false_iff_ne,ne_eq];exact h
  have k:(nxt code a n==0)=false:=b.out;generalize f:nxt code a n=x at*;clear h;have g:Hid (nxt code a n=x):=f;clear f;go_wp2;go_ret;exact⟨by rw[g.out,b.out];rfl,HS,c⟩
structure ScW where
 p:Nat
 cv:Value
 code:List Int
 lo:Nat
 hi:Nat
 sz:Nat
structure EnW (S:ScW)(w0 w:World)(A:Nat):Prop where
 src: ∃a,a≤A∧jE w S.p S.cv a S.sz
 view:zC w S.lo S.hi .u8 S.cv S.code
 out:S.p<S.lo∨S.hi≤S.p
 byt:Byt S.code
 len:S.code.length≤1048600
 chg:zr S.p (S.p+1) w0 w
 top:S.hi≤w0.heap.size∧S.p<w0.heap.size
theorem EnW.self {S:ScW}(h:EnW S w0 w A):EnW S w w A:=
 ⟨h.src,h.view,h.out,h.byt,h.len,zr.refl _ _ _,by have:=h.top;have:=h.chg.size;omega⟩
theorem EnW.join {S:ScW}{A':Nat}(h:EnW S w0 w A)(k:EnW S w w' A'):EnW S w0 w' A':=
 ⟨k.src,k.view,k.out,k.byt,k.len,h.chg.trans k.chg,h.top⟩
theorem EnW.mono {S:ScW}{A':Nat}(h:EnW S w0 w A)(b:A≤A'):EnW S w0 w A':=
 ⟨by obtain⟨a,c,hs⟩:=h.src;exact⟨a,zk,hs⟩,h.view,h.out,h.byt,h.len,h.chg,h.top⟩
theorem EnW.own {S:ScW}{b:Nat}(h:EnW S w0 w A)(c:zr b r w w')(e:w0.heap.size≤b):EnW S w0 w' A:=by
 have f:=h.top;obtain⟨a,d,hs⟩:=h.src;exact⟨⟨a,d,hs.chg c zk⟩,h.view.chg c zk,h.out,h.byt,h.len,h.chg.step c (Or.inr (Or.inl e)),f⟩
theorem EnW.keep {S:ScW}(h:EnW S w0 w A)(c:zr 0 0 w w'):EnW S w0 w' A:=by
 have d:=h.top;obtain⟨a,b,hs⟩:=h.src;exact⟨⟨a,b,hs.chg c zk⟩,h.view.chg c zk,h.out,h.byt,h.len,h.chg.step c (Or.inr (Or.inr (mP 0))),d⟩
theorem EnW.alloc {S:ScW}(h:EnW S w0 w A)(o:Obj):EnW S w0 (w.alloc o) A:=h.keep (zr.alloc (zr.refl 0 0 w) o)
theorem EnW.size {S:ScW}(h:EnW S w0 w A):w0.heap.size≤w.heap.size:=h.chg.size
theorem Vo {S:ScW}(h:EnW S w0 w A)(i:A≤1000000000)(n:Int)(f:n≤9223372036854775807):
  Calls Tryz.prog 106 #[zh S.p,za n] w fun e w'=> ∃r:Int,e= .returned (za r)∧0≤r∧(1≤n→r<n)∧EnW S w0 w' (A+1):=by
 obtain⟨a,j,hs⟩:=h.src;refine(ZA w S.p a S.sz n f h.byt h.len zk hs h.view h.out).mono ?_;rintro e w' ⟨rfl,b,c⟩;have d:=Xu S.code a n;have g:=h.top;refine⟨_,rfl,d.1,d.2,⟨a+1,zk,b⟩,h.view.chg c ?_,h.out,h.byt,h.len,h.chg.trans c,g⟩;have:=h.out;omega
theorem Ej {S:ScW}(h:EnW S w0 w A)(i:A≤1000000000)(n:Int)(f:n≤9223372036854775807):
  Calls Tryz.prog 107 #[zh S.p,za n] w fun e w'=> ∃b:Bool,e= .returned (.bool b)∧EnW S w0 w' (A+1):=by
 obtain⟨a,j,hs⟩:=h.src;refine(Qx w S.p a S.sz n f h.byt h.len zk hs h.view h.out).mono ?_;rintro e w' ⟨rfl,d,c⟩;have g:=h.top;refine⟨_,rfl,⟨a+1,zk,d⟩,h.view.chg c ?_,h.out,h.byt,h.len,h.chg.trans c,g⟩;have:=h.out;omega
theorem Tryz.infoU5:(Tryz.prog.info? 5).map (fun i=>(i.zero,i.size,i.bytes))=some (some (zb 0),1,1):=zl
theorem mH (w:World)(a b c d:Int):zu (w.alloc (zi #[zb a,zb b,zb c,zb d] 5)) w.heap.size 5 (zg w.heap.size 4 4) [a,b,c,d]:=by
 have:=World.ownsRow_lit (base:=w.heap.size) (e:=5) (size:=1) w #[zb a,zb b,zb c,zb d] 4 nlR (by unfold maxLen;omega) rfl;simpa [zu] using this
theorem VM (w:World)(p f sz:Nat)(s:Byt code)(l:code.length≤1048600)(k:f≤1099511627776)
  (hs:jE w p cv f sz) (r:zC w lo hi .u8 cv code) (u:p<lo∨hi≤p):
  Calls Tryz.prog 159 #[zh p] w fun e w'=> ∃g ys,e= .returned (zg g 4 4)∧Byt ys∧ys.length=4∧zu w' w.heap.size 5 (zg g 4 4) ys∧jE w' p cv (f+1) sz∧zr p (p+1) w w':=by
 have v:p<w.heap.size:=(zE hs);go_enter Tryz.func159,Tryz.ntmps159;go_wp2_with fail;refine(Qx _ p f sz 6 zk s l k hs r u).mono ?_;rintro e h ⟨rfl,j,i⟩;have HS:Hid (∀x,jE (h.alloc x) p cv (f+1) sz):=fun x=>j.chg (zr.alloc (zr.refl 0 0 h) x) zk;have n:Hid (∀x,zr p (p+1) w (h.alloc x)):=fun x=>i.alloc x;have o:Hid (∀a b c d,zu (h.alloc (zi #[zb a,zb b,zb c,zb d] 5)) w.heap.size 5 (zg h.heap.size 4 4) [a,b,c,d]):=
  fun a b c d=>(mH h a b c d).base (fun g t=>by cases t;exact i.size)
 clear j i hs r;generalize (nxt code f 6==0)=q
 cases q
 ·go_wp2;go_ret;exact⟨h.heap.size,[106,108,111,103],rfl,by intro x m;simp at m;omega,rfl,o 106 108 111 103,HS _,n _⟩
 ·go_wp2;go_ret;exact⟨h.heap.size,[106,108,111,104],rfl,by intro x m;simp at m;omega,rfl,o 106 108 111 104,HS _,n _⟩
theorem zu.store {base cap:Nat}(h:zu w base e (zg g n cap) xs)(a:xs.length=n)(i:Nat)(hi:i<n)(x:Int):
  (∃u,w.cell? ⟨g,i,none⟩=some u)∧w.frozen? ⟨g,i,none⟩=false∧zu (w.setCell ⟨g,i,none⟩ (zb x)) base e (zg g n cap) (xs.set i x):=by
 subst a;unfold zu at h;refine⟨?_,World.ownsRow.frozenAt h i,?_⟩
 ·rw[nA h i zk];exact⟨_,mZ (by simpa using hi)⟩
 ·have:=(World.ownsRow.stored h i (zb x)).1;unfold zu;rw[ou,rT];exact this
theorem Byt.set (h:Byt xs)(i:Nat){x:Int}(b:0≤x∧x<256):Byt (xs.set i x):=by
 intro y c;rcases su c with a|rfl
 ·exact h y a
 ·exact b
theorem Byt.replicate (k:Nat){x:Int}(a:0≤x∧x<256):Byt (List.replicate k x):=by
 intro y b;obtain⟨_,rfl⟩:=sx.1 b;exact a
theorem UH (w:World)(p at' sz:Nat)(Z:Byt code)(m:code.length≤1048600)(aB:at'+5≤1099511627776)
  (hs:jE w p cv at' sz) (hc:zC w lo hi .u8 cv code) (hp:p<lo∨hi≤p):
  Calls Tryz.prog 138 #[zh p] w fun e w'=> ∃g cap ys k,e= .returned (zg g 64 cap)∧Byt ys∧ys.length=64∧zu w' w.heap.size 5 (zg g 64 cap) ys∧k≤5∧jE w' p cv (at'+k) sz∧zr p (p+1) w w':=by
 obtain⟨ti,au,av,aw,ax⟩:=info_parts Tryz.infoU5;have ar:p<w.heap.size:=(zE hs);have C0:zr p (p+1) w (w.alloc (zi #[] 5)):=zr.alloc (zr.refl p (p+1) w) _;have af:jE (w.alloc (zi #[] 5)) p cv at' sz:=hs.chg (zr.al w) zk;have T:Hid (zu (w.alloc (zi #[] 5)) w.heap.size 5 (zg w.heap.size 0 0) []):=by
  show zu _ _ _ _ _;have:=World.ownsRow_lit (base:=w.heap.size) (e:=5) (size:=1) w #[] 0 nlR (by unfold maxLen;omega) rfl;simpa [zu] using this
 have b:=ZA _ p at' sz 256 zk Z m zk af (hc.chg C0 zk) hp;have t:=Xu code at' 256;generalize nxt code at' 256=x at*;clear hs af;go_enter Tryz.func138,Tryz.ntmps138;go_wp2_with fail;refine b.mono ?_;rintro e w1 ⟨rfl,ag,B⟩;clear b;have hx:0≤x∧x<256:=⟨t.1,t.2 zk⟩;have az:=B.size;have ay:(w.alloc (zi #[] 5)).heap.size=w.heap.size+1:=zn;have U:Hid (zu w1 w.heap.size 5 (zg w.heap.size 0 0) []):=T.out.chg B (fun g c=>by cases c;right;show p+1≤w.heap.size;omega)
 have f:Hid (zr p (p+1) w w1):=C0.trans B;have W:Hid (jE w1 p cv (at'+1) sz):=ag;have aF:w.heap.size≤w1.heap.size:=zk;clear C0 T ag B t ay az;go_wp2;go_loopw [3,5] (fun out i wr=> ∃k:Nat,k≤64∧i=za k∧(∃g cap,out=zg g k cap)∧zu wr w.heap.size 5 out (List.replicate k x)∧jE wr p cv (at'+1) sz∧zr p (p+1) w wr) (fun _ i _=>64-(intOf i).toNat)
 case atStart=>exact⟨0,mX _,rfl,⟨_,_,rfl⟩,U,W,f⟩
 case round=>
  obtain⟨k,hk,rfl,⟨og,oc,rfl⟩,o,hs,a⟩:=hrel;clear U W f;have aG:=a.size;by_cases H:k<64
  ·have hi':(k:Int)<64:=zk;have r:=o.chg (zr.alloc (zr.refl 0 0 wr) (zi #[zb x] 5)) (by intro g _;omega);have h:Hid ((wr.alloc (zi #[zb x] 5)).ownsRow w.heap.size 5 1 (zg og k oc) k ((List.replicate k x).map (Value.int .u8))):=by
    have:=r;unfold zu at this;rw[nC] at this;exact this
   have ao:Hid (∀g,(zg og k oc).ownBlock=some g→w.heap.size≤g):=fun g c=>(o.lt g c).1;have S:Hid (∀j u,[Value.int .u8 x][j]?=some u→(wr.alloc (zi #[zb x] 5)).cell? (((zd wr.heap.size):Addr).add j)=some u):=by
    intro j u hj;have ap:j=0:=by have:=(nD.1 hj).1;simp at this;exact this
    subst ap;simp at hj;subst hj;simp[Addr.add]
   have bs:Hid (w.heap.size≤(wr.alloc (zi #[zb x] 5)).heap.size):=by show _≤_;simp;omega
   have HS:Hid (jE wr p cv (at'+1) sz):=hs;have f:Hid (zr p (p+1) w wr):=a;clear o r hs a;go_wp2_with (at_builtin;refine wpList_append_own _ rfl (.tmp 16) (.tmp 18) 22 rfl w.heap.size 5 ti (zb 0) 1 1 Tryz.underlying22 au av aw ax rfl zp _ k ((List.replicate k x).map (Value.int .u8)) rfl h.out (zd wr.heap.size) 1 1 [zb x] rfl rfl S.out (by simp[Value.oneCell']) (by unfold maxLen;omega) zk bs.out ?_)
   intro v' d s n aq;have HV:Hid (∃g cap,v'=zg g (k+1) cap):=by
    show∃g cap,_;rcases s.2 with⟨e,h0⟩|⟨g',Y,aA,e,_⟩
    ·omega
    ·exact⟨g',Y,e⟩
   have HO3:Hid (zu d w.heap.size 5 v' (List.replicate (k+1) x)):=by
    show zu _ _ _ _ _;unfold zu;rw[nC,List.replicate_succ',m6,sy];exact s
   have G:zr w.heap.size (wr.heap.size+1) (wr.alloc (zi #[zb x] 5)) d:=zr.ofGrown n (fun g c H=>⟨ao.out g c,by simpa using H⟩);have HC3:Hid (zr p (p+1) w d):=(f.alloc _).step G (Or.inr (Or.inl nlR));have HS3:Hid (jE d p cv (at'+1) sz):=(HS.chg (zr.al wr) zk).chg G (Or.inl ar);clear s n G S h bs f aq;go_wp2;go_roundw
   case rel=>exact⟨k+1,zk,by go_num,HV.out,HO3.out,HS3.out,HC3.out⟩
   case measure=>simp[intOf];omega
  ·obtain rfl:k=64:=zk;have HO:Hid (zu wr w.heap.size 5 (zg og 64 oc) (List.replicate 64 x)):=o;have ab:=o.lt og rfl;have b:=ZA _ p (at'+1) sz 64 zk Z m zk hs (hc.chg a zk) hp;have t:=Xu code (at'+1) 64;obtain⟨q,hq⟩: ∃q:Nat,nxt code (at'+1) 64=(q:Int):=⟨(nxt code (at'+1) 64).toNat,zk⟩;rw[hq] at b t;have ae:q<64:=by have:=t.2 zk;omega
   clear hq t o hs;have Q:Hid (zr p (p+1) w wr):=a;clear a;go_wp2_with fail;refine b.mono ?_;rintro e w2 ⟨rfl,ah,C⟩;clear b;have aH:=C.size;have h:Hid (zu w2 w.heap.size 5 (zg og 64 oc) (List.replicate 64 x)):=HO.out.chg C (fun g c=>by cases c;right;show p+1≤og;omega);have K:Hid (zr p (p+1) w w2):=Q.trans C;have b:=ZA _ p (at'+1+1) sz 256 zk Z m zk ah (hc.chg K zk) hp;have t:=Xu code (at'+1+1) 256
   generalize nxt code (at'+1+1) 256=y at*;have hy:0≤y∧y<256:=⟨t.1,t.2 zk⟩;clear HO Q C ah t;go_wp2_with fail;refine b.mono ?_;rintro e d ⟨rfl,ai,D⟩;clear b;have aI:=D.size;have ac:=h.out.chg D (fun g c=>by cases c;right;show p+1≤og;omega);have HC3:Hid (zr p (p+1) w (d.setCell ⟨og,q,none⟩ (zb y))):=(K.trans D).setCell (Or.inr ab.1) _;obtain⟨⟨u,cu⟩,fu,ad⟩:=ac.store zn q ae y;have aj:jE (d.setCell ⟨og,q,none⟩ (zb y)) p cv (at'+1+1+1) sz:=ai.chg (zr.setCell (p:=⟨og,q,none⟩) (zr.refl og (og+1) d) (Or.inl ⟨mP _,m5 _⟩) _) (Or.inl zk)
   have hY:Byt ((List.replicate 64 x).set q y):=(Byt.replicate 64 hx).set q hy;have aa:((List.replicate 64 x).set q y).length=64:=zn;generalize (List.replicate 64 x).set q y=zs at*;have O:Hid (Byt zs∧zs.length=64):=⟨hY,aa⟩;have V:Hid (zu (d.setCell ⟨og,q,none⟩ (zb y)) w.heap.size 5 (zg og 64 oc) zs):=ad;have b:=Qx _ p (at'+1+1+1) sz 5 zk Z m zk aj (hc.chg HC3 zk) hp;generalize (nxt code (at'+1+1+1) 5==0)=ch at*
   have aD:(q:Int)<64:=zk;have s4:(d.setCell ⟨og,q,none⟩ (zb y)).heap.size=d.heap.size:=zn;clear h K D ai ac ad hY aa aj;go_wp2_with fail;generalize d.setCell ⟨og,q,none⟩ (zb y)=w4 at*;refine b.mono ?_;rintro e w5 ⟨rfl,J,E⟩;clear b cu fu;have aJ:=E.size;have I:=V.out.chg E (fun g c=>by cases c;right;show p+1≤og;omega);have v:Hid (zr p (p+1) w w5):=HC3.trans E;clear V HC3 E
   cases ch
   ·have A:Hid (zu w5 w.heap.size 5 (zg og 64 oc) zs):=I;have am:Hid (jE w5 p cv (at'+1+1+1+1) sz):=J;clear J I;go_wp2;go_ret;exact⟨og,oc,zs,4,rfl,O.1,O.2,A,zk,am,v⟩
   ·have A:Hid (zu w5 w.heap.size 5 (zg og 64 oc) zs):=I;have b:=VM _ p (at'+1+1+1+1) sz Z m zk J (hc.chg v zk) hp;clear J I;go_wp2_with fail;refine b.mono ?_;rintro e w6 ⟨mg,N,rfl,hM,M,om,ak,F⟩;clear b;have aK:=F.size;have aE:=om.lt mg rfl;have L:Hid (zu w6 w.heap.size 5 (zg og 64 oc) zs):=A.out.chg F (fun g c=>by cases c;right;show p+1≤og;omega);have P:Hid (zr p (p+1) w w6):=v.trans F;have HM:Hid (∀k,k<4→w6.cell? ⟨mg,k,none⟩=some (zb (N.getD k 0))):=by
     intro k hk;unfold zu at om;rw[M] at om;rw[nA om k zk];simp[M,hk]
    have R:Hid (∀k,0≤N.getD k 0∧N.getD k 0<256):=fun k=>hM.getD k;have X:Hid (jE w6 p cv (at'+1+1+1+1+1) sz):=ak;clear A v F om ak hM M;go_wp2;go_loopw [7] (fun i wr=> ∃k:Nat,k≤4∧i=za k∧(∃zs,Byt zs∧zs.length=64∧zu wr w.heap.size 5 (zg og 64 oc) zs)∧zr og (og+1) w6 wr) (fun i _=>4-(intOf i).toNat)
    case atStart=>exact⟨0,mX _,rfl,⟨zs,O.1,O.2,L⟩,zr.refl _ _ _⟩
    case round=>
     obtain⟨k,hk,rfl,⟨us,hU,l,o⟩,a⟩:=hrel;by_cases H:k<4
     ·have hi':(k:Int)<4:=zk;have aC:(k:Int)<64:=zk;have c1:=a.cell (HM k H);have b1:=R.out k;obtain⟨⟨u,cu⟩,fu,r⟩:=o.store l k zk (N.getD k 0);have HO7:Hid (∃zs,Byt zs∧zs.length=64∧zu (wr.setCell ⟨og,k,none⟩ (zb (N.getD k 0))) w.heap.size 5 (zg og 64 oc) zs):=⟨_,hU.set k b1,by simpa using l,r⟩;have HC7:Hid (zr og (og+1) w6 (wr.setCell ⟨og,k,none⟩ (zb (N.getD k 0)))):=a.setCell (Or.inl ⟨mP _,m5 _⟩) _
      generalize N.getD k 0=z at*;clear o r hU l a L O;go_wp2;go_roundw
      case rel=>exact⟨k+1,zk,by go_num,HO7.out,HC7.out⟩
      case measure=>simp[intOf];omega
     ·obtain rfl:k=4:=zk;have HO7:Hid (Byt us∧us.length=64∧zu wr w.heap.size 5 (zg og 64 oc) us):=⟨hU,l,o⟩;have HC7:Hid (zr p (p+1) w wr):=P.step a (Or.inr (Or.inl ab.1));have an:Hid (jE wr p cv (at'+5) sz):=X.chg a (Or.inl zk);clear o hU l a L O HM R X P;go_wp2;go_ret;exact⟨og,oc,us,5,rfl,HO7.1,HO7.2.1,HO7.2.2,zk,an,HC7⟩
abbrev oP:= @heap_setCell_same
theorem zr.setCells (g:Nat): ∀(a:List Value) (o:Nat) (w:World),zr g (g+1) w (w.setCells g o a)
 | [],_,_=>zr.refl _ _ _
 |v::r,o,w=>(zr.setCell (zr.refl g (g+1) w) (p:=⟨g,o,none⟩) (Or.inl ⟨mP _,m5 _⟩) v).trans (zr.setCells g r (o+1) _)
theorem QW {α:Type}(L:List α)(o:Nat)(v:α)(r:List α)(h:o<L.length):splice (L.set o v) (o+1) r=splice L o (v::r):=by
 unfold splice;have a:(L.set o v).take (o+1)=L.take o++ [v]:=by
  rw[oy (by simpa using h),List.take_set,List.set_eq_of_length_le (by simp;omega)];simp
 have b:(L.set o v).drop (o+1+r.length)=L.drop (o+(v::r).length):=by
  rw[List.drop_set_of_lt zk];congr 1;simp only[m7];omega
 rw[a,b];simp
theorem jr (g:Nat)(t:TypeId): ∀(a:List Value) (o:Nat) (w:World) (L:List Value),w.heap[g]?=some (zi L.toArray t)→o+a.length≤L.length→
  (w.setCells g o a).heap[g]?=some (zi (splice L o a).toArray t)
 | [],o,w,L,h,_=>by simpa [World.setCells,splice] using h
 |v::r,o,w,L,h,hl=>by
  have h1:(w.setCell ⟨g,o,none⟩ v).heap[g]?=some (zi (L.set o v).toArray t):=by
   have:=oP w g o L.toArray t v h;simpa using this
  have:=jr g t r (o+1) _ (L.set o v) h1 (by simp at*;omega)
  rw[QW L o v r (by simp at hl;omega)] at this
  exact this
theorem fT {L:List Value}(h:w.heap[g]?=some (zi L.toArray t)):w.there g 0 L.length:=by
 intro j a;rw[ni];refine⟨?_,?_⟩
 ·simp[World.cell?,h,a]
 ·simp[World.frozen?,h]
theorem wp_store_row {o:Oper}{a:Act}{K:Act→World→Prop}(T:TypeId)(p v:Operand)(f:o.op= .store T p v)(c:o.dst=none)(g:Nat)(i:a.eval p=zh g)
  (full L:List Value) (t:TypeId) (k:a.eval v= .agg full.toArray) (b:w.heap[g]?=some (zi L.toArray t)) (d:full.length=L.length) (hi:(P.info? T).map (·.size)=some full.length) (h1: ∀v∈full,v.oneCell'=true)
  (h: ∀w',w'.heap[g]?=some (zi full.toArray t)→zr g (g+1) w w'→K a w'):o.wp P a w K Q:=by
 have j:w.there g 0 full.toArray.size:=by have:=fT b;simpa [d] using this
 refine wp_store_mid T p v f g 0 full.toArray i k j (by simpa using hi) (by rw[tm];intro x l;exact h1 x (by simpa using l)) ?_;rw[c];refine h _ ?_ (zr.setCells g _ 0 w);have:=jr g t full 0 w L b zk;have e:splice L 0 full=full:=by
  unfold splice;rw[oI,nG,ni,oZ zk,nw]
 rw[e] at this;exact this
theorem wsR {o:Oper}{a:Act}{K:Act→World→Prop}{T:TypeId}{p v:Operand}{L:List Value}(full:List Value)(c:w.heap[g]?=some (zi L.toArray t))
  (h: ∀w',w'.heap[g]?=some (zi full.toArray t)→zr g (g+1) w w'→K a w') (e:o.op= .store T p v:=by rfl) (b:o.dst=none:=by rfl) (f:a.eval p=zh g:=by rfl) (i:a.eval v= .agg full.toArray:=by rfl) (d:full.length=L.length:=by rfl) (hi:(P.info? T).map (·.size)=some full.length:=by kernel_rfl) (h1: ∀v∈full,v.oneCell'=true:=by simp[Value.oneCell']):o.wp P a w K Q:=
 wp_store_row T p v e b g f full L t i c d hi h1 h
theorem wpList_store_row {ops:Array Oper}{rest:List Oper}{op:Oper}{a:Act}(b:op.guard=none)(T:TypeId)(x y:Operand)(f:op.op= .store T x y)(c:op.dst=none)(g:Nat)(i:a.eval x=zh g)
  (full L:List Value) (t:TypeId) (j:a.eval y= .agg full.toArray) (d:w.heap[g]?=some (zi L.toArray t)) (e:full.length=L.length) (hi:(P.info? T).map (·.size)=some full.length) (h1: ∀v∈full,v.oneCell'=true)
  (h: ∀w',w'.heap[g]?=some (zi full.toArray t)→zr g (g+1) w w'→wpList P ops Q rest a w'):wpList P ops Q (op::rest) a w:=
 wpList_plain b fun _ hK=>wp_store_row T x y f c g i full L t j d e hi h1 (fun w' h2 h3=>hK _ _ (h w' h2 h3))
theorem Ug {b:Nat}(h:w.heap[b]?=some (zi (xs.map (Value.int .u8)).toArray t))(o n cap:Nat)(e:o+n≤xs.length:=by omega)(d:xs.length≤1048576:=by omega)(c:n≤cap:=by omega):zC w b (b+1) .u8 (zj (some ⟨b,o,none⟩) n cap) ((xs.drop o).take n):=by
 have a:((xs.drop o).take n).length=n:=by rw[mW,m8];omega
 refine⟨_,cap,by rw[a],by rw[a];omega,⟨by rw[a];exact c,zn⟩,Or.inr ⟨b,o,rfl,mP _,m5 _,fun i hi=>?_⟩⟩;rw[a] at hi;simp only[World.cell?,h,rI,nU,mV,oA,oQ,mM hi];rw[mZ (show o+i<xs.length by omega)];rfl
theorem zy {b:Nat}{cs:List Value}(h:w.heap[b]?=some (zi cs.toArray t)):w.rangeAt b 0 cs:=by
 intro j v a;rw[ni];simp[World.cell?,h,a]
def Z64:List Value:= [zb 0,zb 0,zb 0,zb 0,zb 0,zb 0,zb 0,zb 0,zb 0,zb 0,zb 0,zb 0,zb 0,zb 0,zb 0,zb 0,zb 0,zb 0,zb 0,zb 0,zb 0,zb 0,zb 0,zb 0,zb 0,zb 0,zb 0,zb 0,zb 0,zb 0,zb 0,zb 0,zb 0,zb 0,zb 0,zb 0,zb 0,zb 0,zb 0,zb 0,zb 0,zb 0,zb 0,zb 0,zb 0,zb 0,zb 0,zb 0,zb 0,zb 0,zb 0,zb 0,zb 0,zb 0,zb 0,zb 0,zb 0,zb 0,zb 0,zb 0,zb 0,zb 0,zb 0,zb 0]
theorem qd:(#[zb 0,zb 0,zb 0,zb 0,zb 0,zb 0,zb 0,zb 0,zb 0,zb 0,zb 0,zb 0,zb 0,zb 0,zb 0,zb 0,zb 0,zb 0,zb 0,zb 0,zb 0,zb 0,zb 0,zb 0,zb 0,zb 0,zb 0,zb 0,zb 0,zb 0,zb 0,zb 0,zb 0,zb 0,zb 0,zb 0,zb 0,zb 0,zb 0,zb 0,zb 0,zb 0,zb 0,zb 0,zb 0,zb 0,zb 0,zb 0,zb 0,zb 0,zb 0,zb 0,zb 0,zb 0,zb 0,zb 0,zb 0,zb 0,zb 0,zb 0,zb 0,zb 0,zb 0,zb 0]:Array Value)=Z64.toArray:=by unfold Z64;rfl
theorem zN:Z64.length=64:=by unfold Z64;rfl
theorem dy: ∀v∈Z64,v.oneCell'=true:=by
 intro v a;have:v=zb 0:=by
  have h:Z64=List.replicate 64 (zb 0):=by unfold Z64;rfl
  rw[h] at a;exact rU a
 rw[this];rfl
structure Beg (w x:World)(hd:Obj)(cur:List Value):Prop where
 b0:x.heap[w.heap.size]?=some hd
 b1:x.heap[w.heap.size+1]?=some (zi Z64.toArray 78)
 b2:x.heap[w.heap.size+1+1]?=some (zi cur.toArray 78)
 ch:zr 0 0 w x
theorem Beg.lt (h:Beg w x hd cur):w.heap.size+1+1<x.heap.size:=(zE h.b2)
theorem Beg.chg {y:World}(h:Beg w x hd cur)(c:zr 0 0 x y):Beg w y hd cur:=
 have:=h.lt
 ⟨c.bt h.b0,c.bt h.b1,c.bt h.b2,h.ch.trans c⟩
theorem Beg.put {y:World}{cur':List Value}(h:Beg w x hd cur)(c:zr (w.heap.size+1+1) (w.heap.size+1+1+1) x y)(a:y.heap[w.heap.size+1+1]?=some (zi cur'.toArray 78)):Beg w y hd cur':=
 have:=h.lt
 ⟨c.bt h.b0,c.bt h.b1,a,h.ch.step c⟩
theorem zC.cellAt' {cap:Nat}(h:zC w lo hi .u8 (zg g n cap) xs)(i:Nat)(hi:i<xs.length):w.cell? ⟨g,i,none⟩=some (zb (xs.getD i 0)):=by
 obtain⟨_,_,e,_,_,h⟩:=h;simp only[Value.slice.injEq] at e;rcases h with h|⟨b,c,a,_,_,h3⟩
 ·rw[h] at hi;simp at hi
 ·rw[←e.1] at a
  cases a
  have:=h3 i hi;rwa [ni] at this
theorem zH {fn:Func}{p:Tmp}{ty:TypeId}{tmps:Array Value}{a:Addr}(h:fn.results= #[.cell p ty])(d:tmps.getD p undef= .pointer (some a))(c:(loadVar ty a).run P w= .ok v w):
  (results fn tmps).run P w= .ok v w:=by
 have b:tmps[p]?.getD undef= .pointer (some a):=by simpa using d
 simp only[results,h];simp[asAddr,b,c]
end Go.Proofs.YthdeofoleiiibaaGreatDoor
