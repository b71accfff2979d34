import Derived.Test.YtacjklochmelfaaGreatDoorCells2
import Derived.Deep.MidRow
namespace Go.Proofs.YtacjklochmelfaaGreatDoor
open Go.RowKit
theorem KQ {w:World}{b:Nat}{xs:List Int}{t:TypeId}(h:w.heap[b]?=some (.cells (xs.map (Value.int .u8)).toArray t (0,0)))(o n cap:Nat)(hn:o+n≤xs.length)(hl:xs.length≤1048576)(hc:n≤cap):zr w b (b+1) .u8 (.slice (some ⟨b,o,none⟩) n cap) ((xs.drop o).take n):=by
 have hlen:((xs.drop o).take n).length=n:=by rw[List.length_take,List.length_drop];omega
 refine⟨_,cap,by rw[hlen],by rw[hlen];omega,⟨by rw[hlen];exact hc,by simp⟩,Or.inr ⟨b,o,rfl,Nat.le_refl _,Nat.lt_succ_self _,fun i hi=>?_⟩⟩;rw[hlen] at hi;simp only[World.cell?,h,List.getElem?_toArray,List.getElem?_map,List.getD_eq_getElem?_getD,List.getElem?_take,List.getElem?_drop,if_pos hi];rw[List.getElem?_eq_getElem (show o+i<xs.length by omega)];rfl
theorem zj {w:World}{b:Nat}{cs:List Value}{t:TypeId}(h:w.heap[b]?=some (.cells cs.toArray t (0,0))):w.rangeAt b 0 cs:=by
 intro j v hj;rw[Nat.zero_add];simp[World.cell?,h,hj]
def Z64:List Value:= [zb 0,zb 0,zb 0,zb 0,zb 0,zb 0,zb 0,zb 0,zb 0,zb 0,zb 0,zb 0,zb 0,zb 0,zb 0,zb 0,zb 0,zb 0,zb 0,zb 0,zb 0,zb 0,zb 0,zb 0,zb 0,zb 0,zb 0,zb 0,zb 0,zb 0,zb 0,zb 0,zb 0,zb 0,zb 0,zb 0,zb 0,zb 0,zb 0,zb 0,zb 0,zb 0,zb 0,zb 0,zb 0,zb 0,zb 0,zb 0,zb 0,zb 0,zb 0,zb 0,zb 0,zb 0,zb 0,zb 0,zb 0,zb 0,zb 0,zb 0,zb 0,zb 0,zb 0,zb 0]
theorem zM:(#[zb 0,zb 0,zb 0,zb 0,zb 0,zb 0,zb 0,zb 0,zb 0,zb 0,zb 0,zb 0,zb 0,zb 0,zb 0,zb 0,zb 0,zb 0,zb 0,zb 0,zb 0,zb 0,zb 0,zb 0,zb 0,zb 0,zb 0,zb 0,zb 0,zb 0,zb 0,zb 0,zb 0,zb 0,zb 0,zb 0,zb 0,zb 0,zb 0,zb 0,zb 0,zb 0,zb 0,zb 0,zb 0,zb 0,zb 0,zb 0,zb 0,zb 0,zb 0,zb 0,zb 0,zb 0,zb 0,zb 0,zb 0,zb 0,zb 0,zb 0,zb 0,zb 0,zb 0,zb 0]:Array Value)=Z64.toArray:=by unfold Z64;rfl
theorem zD:Z64.length=64:=by unfold Z64;rfl
theorem NW: ∀v∈Z64,v.oneCell'=true:=by
 intro v hv;have:v=zb 0:=by
  have h:Z64=List.replicate 64 (zb 0):=by unfold Z64;rfl
  rw[h] at hv;exact List.eq_of_mem_replicate hv
 rw[this];rfl
structure Beg (w x:World)(hd:Obj)(cur:List Value):Prop where
 b0:x.heap[w.heap.size]?=some hd
 b1:x.heap[w.heap.size+1]?=some (.cells Z64.toArray 72 (0,0))
 b2:x.heap[w.heap.size+1+1]?=some (.cells cur.toArray 72 (0,0))
 ch:Chg 0 0 w x
theorem Beg.lt {w x:World}{hd:Obj}{cur:List Value}(h:Beg w x hd cur):w.heap.size+1+1<x.heap.size:=(gLt h.b2)
theorem Beg.chg {w x y:World}{hd:Obj}{cur:List Value}(h:Beg w x hd cur)(c:Chg 0 0 x y):Beg w y hd cur:=
 have:=h.lt
 ⟨(c.block _ (by omega) (by omega)).trans h.b0,(c.block _ (by omega) (by omega)).trans h.b1,(c.block _ (by omega) (by omega)).trans h.b2,h.ch.trans c⟩
theorem Beg.put {w x y:World}{hd:Obj}{cur cur':List Value}(h:Beg w x hd cur)(c:Chg (w.heap.size+1+1) (w.heap.size+1+1+1) x y)(hb:y.heap[w.heap.size+1+1]?=some (.cells cur'.toArray 72 (0,0))):Beg w y hd cur':=
 have:=h.lt
 ⟨(c.block _ (by omega) (by omega)).trans h.b0,(c.block _ (by omega) (by omega)).trans h.b1,hb,h.ch.step c (by omega)⟩
theorem zr.cellAt' {w:World}{lo hi g n cap:Nat}{xs:List Int}(h:zr w lo hi .u8 (.slice (some (zd g)) n cap) xs)(i:Nat)(hi:i<xs.length):w.cell? ⟨g,i,none⟩=some (zb (xs.getD i 0)):=by
 obtain⟨_,_,e,_,_,h⟩:=h;simp only[Value.slice.injEq] at e;rcases h with h|⟨b,off,ha,_,_,h3⟩
 ·rw[h] at hi;simp at hi
 ·rw[←e.1] at ha
  cases ha
  have:=h3 i hi;rwa [Nat.zero_add] at this
theorem zu {P:Program}{fn:Func}{p:Tmp}{ty:TypeId}{w:World}{tmps:Array Value}{a:Addr}{v:Value}(h:fn.results= #[.cell p ty])(ht:tmps.getD p undef= .pointer (some a))(hl:(loadVar ty a).run P w= .ok v w):
  (results fn tmps).run P w= .ok v w:=by
 have ht':tmps[p]?.getD undef= .pointer (some a):=by simpa using ht
 simp only[results,h];simp[asAddr,ht',hl]
end Go.Proofs.YtacjklochmelfaaGreatDoor
