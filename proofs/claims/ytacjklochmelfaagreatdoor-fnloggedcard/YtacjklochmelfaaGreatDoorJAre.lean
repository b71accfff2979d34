import Derived.Test.YtacjklochmelfaaGreatDoorImplBlk
import Derived.Test.YtacjklochmelfaaGreatDoorCopyRow
import Derived.Test.YtacjklochmelfaaGreatDoorSettle
namespace Go.Proofs.YtacjklochmelfaaGreatDoor
open Go.RowKit Go.Shelf
set_option maxRecDepth 100000
set_option maxHeartbeats 16000000
attribute [local go_sem] Oper.semAt_some
theorem adw {t:Tx}(hby: ∀x∈t.homes,Byt x.2): ∀b∈TL t,Byt b:=by
 intro b hb;unfold TL at hb;split at hb
 ·rcases List.mem_append.1 hb with hb|hb
  ·exact EQ t.revs hby b hb
  ·rw[List.mem_singleton.1 hb];exact Jj ((Qk (by omega)).app (qh _ _))
 ·simp at hb
theorem aaH {bs:List (List Int)}(h: ∀b∈bs,b.length=64){i:Nat}(hi:i<bs.length):(bs.flatten.drop (i*64)).take 64=bs.getD i []:=by
 induction bs generalizing i with
 |nil=>simp at hi
 |cons b r ih=>
  have hb:=h b (by simp)
  cases i with
  |zero=>
   rw[List.flatten_cons,Nat.zero_mul,List.drop_zero,List.take_append_of_le_length (by omega),List.take_of_length_le (by omega)];rfl
  |succ i=>
   rw[List.flatten_cons,show(i+1)*64=b.length+i*64 by omega,List.drop_append,List.drop_eq_nil_of_le (by omega),List.nil_append,Nat.add_sub_cancel_left,ih (fun x hx=>h x (by simp[hx])) (by simpa using hi)];rfl
theorem Uk {w:World}{base n:Nat}{sv:Value}{bs:List (List Int)}(h:w.ownsRow base 72 64 sv n (bs.flatten.map (Value.int .u8)))(hb: ∀b∈bs,b.length=64){i:Nat}(hi:i<bs.length): ∃g cap,sv= .slice (some (zd g)) n cap∧w.rangeAt g (i*64) ((bs.getD i []).map (Value.int .u8)):=by
 have hl:=Q2 hb;rcases h.2 with⟨rfl,h0⟩|⟨g,cap,cur,rfl,_⟩
 ·exfalso;have:=h.1;rw[h0,List.length_map,hl] at this;omega
 ·refine⟨g,cap,rfl,fun j v hj=>?_⟩;have hj64:j<64:=by
   have:=(List.getElem?_eq_some_iff.1 hj).1;rw[List.length_map] at this;have hm:bs.getD i []∈bs:=by rw[List.getD_eq_getElem?_getD,List.getElem?_eq_getElem hi];exact List.getElem_mem hi
   rw[hb _ hm] at this;exact this
  rw[World.ownsRow.cellAt h (i*64+j) (by have:=h.1;rw[List.length_map,hl] at this;omega),←hj,←aaH hb hi,List.getElem?_map,List.getElem?_map,List.getElem?_take,if_pos hj64,List.getElem?_drop]
def adm (w:World) (sa:Option Addr) (w':World):Prop:= ∀g,sa=some (zd g)→w'.heap[g]?=w.heap[g]?
structure ArI (w:World)(sv:Value)(bs tl:List (List Int))(pre:List (Fin 1000×Fin tl.length))(V:World):Prop where
 bb:V.heap[w.heap.size]?=some (.cells #[sv] 80 (0,0))
 rs:V.heap[w.heap.size+1+1]?=some (.cells #[.bool false] 4 (0,0))
 ln:V.heap[w.heap.size+3]?=some (.cells #[za (Xn pre)] 2 (0,0))
 al: ∀z∈pre,z.1.val<bs.length∧bs.getD z.1.val []=tl.getD z.2.val []
 ch:Chg 0 0 w V
structure ArX (w:World)(bs tl:List (List Int))(c:Code)(pre:List (Fin 1000×Fin tl.length))(V:World):Prop where
 c:c= .ret
 rs:V.heap[w.heap.size+1+1]?=some (.cells #[.bool false] 4 (0,0))
 no: ∃z∈pre,¬(z.1.val<bs.length∧bs.getD z.1.val []=tl.getD z.2.val [])
 ch:Chg 0 0 w V
theorem Ua {w:World}{b:Nat}{v:Bool}(h:w.heap[b]?=some (.cells #[.bool v] 4 (0,0))):(loadVar 4 (zd b)).run Tryz.prog w= .ok (.bool v) w:=by
 have ha:=Boxed.cell h;simp[loadVar,isAgg,underlying,Tryz.underlying4,ha,Result.andThen]
theorem Yb (w:World){lo hi base:Nat}{a sv:Value}{t:Tx}{bs:List (List Int)}(hl:Z3 t≤1048576)(hhi:hi≤w.heap.size)(hby: ∀x∈t.homes,Byt x.2)(hM:Mag w)(h1:jI w lo hi a t)
  (hs:w.ownsRow base 72 64 sv bs.length (bs.flatten.map (Value.int .u8))) (hb: ∀b∈bs,b.length=64) (hbb: ∀b∈bs,Byt b):
  Calls Tryz.prog 110 #[sv,a] w fun e w'=>e= .returned (.bool (decide (TL t=bs)))∧Chg 0 0 w w':=by
 obtain⟨hv,rv,rfl,p1,v1⟩:=h1;have hMl:=hM.lt;obtain⟨h57,h64⟩:=JR hby;have hTb:=adw hby;obtain⟨rz,Hrz⟩: ∃rz:Bool,Hid (rz=decide (TL t=bs)):=⟨_,rfl⟩;rw[←Hrz.out];obtain⟨sa,sn,sc,rfl⟩:=zx hs;obtain rfl:sn=bs.length:=by
  rcases hs.2 with⟨e,h0⟩|⟨g,cap,cur,e,_⟩
  ·cases e;exact h0.symm
  ·simp only[Value.slice.injEq] at e;exact e.2.1
 have cA:Chg 0 0 w (((w.alloc (.cells #[.slice sa bs.length sc] 80)).alloc (.cells #[za t.seq,hv,rv] 35)).alloc (.cells #[.bool false] 4)):=((Chg.alloc (Chg.refl 0 0 w) _).alloc _).alloc _;obtain⟨z1,z2,z3,z4⟩:=QW w (.cells #[.slice sa bs.length sc] 80) (.cells #[za t.seq,hv,rv] 35) (.cells #[.bool false] 4);refine(callsIn_wide (n:=0)).1 ?_;refine callsIn_of_wp_marks Tryz.func110 rfl trivial ?_ rfl
 simp only[Tryz.ntmps110,List.size_toArray,List.length_cons,List.length_nil,Nat.reduceAdd,Nat.reduceSub,Array.replicate_succ,Array.replicate_zero,List.push_toArray,List.append_toArray,List.nil_append,List.cons_append];gi_wp2;generalize ((w.alloc (.cells #[.slice sa bs.length sc] 80)).alloc (.cells #[za t.seq,hv,rv] 35)).alloc (.cells #[.bool false] 4)=wA at*;obtain⟨y1,y2,y3⟩:=zN wA (.cells #[za 0] 2) (.cells #[za t.seq,hv,rv] 35)
 have cB:Chg 0 0 wA ((wA.alloc (.cells #[za 0] 2)).alloc (.cells #[za t.seq,hv,rv] 35)):=(Chg.alloc (Chg.refl 0 0 wA) _).alloc _;have sB:(wA.alloc (.cells #[za 0] 2)).heap.size=w.heap.size+4:=by simp[z1]
 refine⟨trivial,rfl,(callsIn_wide.2 (j9 _ _ _ _)).mono ?_⟩;rintro e w1 ⟨rfl,rfl⟩;rw[sB];generalize (wA.alloc (.cells #[za 0] 2)).alloc (.cells #[za t.seq,hv,rv] 35)=wL at*;rw[z1] at y1 y2 y3;have cL:Chg 0 0 w wL:=cA.trans cB;have x2:=(cB.block _ (by omega) (by omega)).trans z2;have x3:=(cB.block _ (by omega) (by omega)).trans z4;have hseq:=Nj (w.heap.size+4) lo hi t hv rv wL hl hby (hM.chg cL (by omega)) y3 (p1.chg cL (by omega)) (v1.chg cL (by omega)) (by omega)
 clear cB z2 z3 z4 z1 cA;gi_wp2;have hI': ∀M:Nat,OwnFrom wL.heap.size (ArI w (.slice sa bs.length sc) bs (TL t)):=by
  rintro M pre A C row h hg hr;have hne: ∀k,k<w.heap.size+5→some k≠row:=fun k hk e=>by have:=(hr _ e.symm).1;omega
  exact⟨(hg.block _ (gLt h.bb) (hne _ (by omega))).trans h.bb,(hg.block _ (gLt h.rs) (hne _ (by omega))).trans h.rs,(hg.block _ (gLt h.ln) (hne _ (by omega))).trans h.ln,h.al,
   ⟨hg.os.trans h.ch.os,hg.tape.trans h.ch.tape,hg.output.trans h.ch.output,Nat.le_trans h.ch.size hg.size,fun k hk ho=>(hg.block k (Nat.lt_of_lt_of_le hk h.ch.size) (hne _ (by omega))).trans (h.ch.block k hk ho)⟩⟩
 refine QD (n:=0) (Kp:=KpT (KA (w.heap.size+4) lo hi) (wL.heap.size+2)) (gf:=59) (lb:= #[.pointer (some (zd (w.heap.size+4)))]) rfl (enters_of Tryz.func59 (by kernel_rfl) rfl)
  hseq (fun h=>h) (Below.refl _ _) (fun _=>rfl) KpT.trans (fun V o _ hb=>KpT.put o hb (fun k hk=>by unfold KA at hk;omega) (by omega))
  (fun _=>ArI w (.slice sa bs.length sc) bs (TL t)) (fun _=>ArX w bs (TL t))
  hI' ?hIx ?hIF ?hIxF ?h0
  (fun x a' V=> ∃Bx,wL.heap.size≤Bx∧V.heap[Bx]?=some (.cells (((TL t).getD x.2.val []).map (Value.int .u8)).toArray 72 (0,0))∧a'= {tmps:= #[.slice sa bs.length sc,.agg #[za t.seq,hv,rv],.pointer (some (zd w.heap.size)),.pointer (some (zd (w.heap.size+1))),.pointer (some ⟨w.heap.size+1+1,0,none⟩),.pointer (some (zd (w.heap.size+3))),za (x.1.val:Int),.pointer (some (zd Bx)),.agg #[za t.seq,hv,rv],.func (.func 59) #[] #[.pointer (some (zd (w.heap.size+4)))],za (x.1.val:Int),.agg (((TL t).getD x.2.val []).map (Value.int .u8)).toArray,undef,undef,undef,undef,undef,undef,undef,undef,undef,undef,undef,undef,undef,undef,undef,undef,undef,undef],defers:= []})
  ?hAx ?assign ?body ?done ?stop
 case hIx=>
  rintro M c pre A C row h hg hr;have hne: ∀k,k<w.heap.size+5→some k≠row:=fun k hk e=>by have:=(hr _ e.symm).1;omega
  exact⟨h.c,(hg.block _ (gLt h.rs) (hne _ (by omega))).trans h.rs,h.no,
   ⟨hg.os.trans h.ch.os,hg.tape.trans h.ch.tape,hg.output.trans h.ch.output,Nat.le_trans h.ch.size hg.size,fun k hk ho=>(hg.block k (Nat.lt_of_lt_of_le hk h.ch.size) (hne _ (by omega))).trans (h.ch.block k hk ho)⟩⟩
 case hIF=>
  rintro M zs A C h hc hm;exact⟨(hc.block _ (gLt h.bb) (by omega)).trans h.bb,(hc.block _ (gLt h.rs) (by omega)).trans h.rs,(hc.block _ (gLt h.ln) (by omega)).trans h.ln,h.al,h.ch.step hc (by omega)⟩
 case hIxF=>
  rintro M c zs A C h hc hm;exact⟨h.c,(hc.block _ (gLt h.rs) (by omega)).trans h.rs,h.no,h.ch.step hc (by omega)⟩
 case h0=>
  intro V hV hsz;exact⟨(hV.block _ (by omega)).trans x2,(hV.block _ (by omega)).trans x3,(hV.block _ (by omega)).trans y2,(by simp),cL.step (Chg.ofBelow hV 0 0) (by omega)⟩
 case hAx=>
  rintro x a' _ A C row ⟨Bx,h1,h2,h3⟩ hg hr;exact⟨Bx,h1,Zk h2 hg (fun r e=>(hr r e).2),h3⟩
 case assign=>
  rintro M l' zs x V K' hM' hMV hi' hK';simp only[U7];have hln:(((TL t).getD x.2.val []).map (Value.int .u8)).length=64:=by rw[List.length_map];exact h64 _ (Zx x.2)
  have h1c: ∀v∈((TL t).getD x.2.val []).map (Value.int .u8),v.oneCell'=true:=ints_oneCell _ _;have hics:(Tryz.prog.info? 72).map (·.size)=some (((TL t).getD x.2.val []).map (Value.int .u8)).length:=by rw[hln];kernel_rfl
  generalize ((TL t).getD x.2.val []).map (Value.int .u8)=cs at*;gi_wp2_with (refine wpListIn_plain rfl fun K hK=>?_;refine jH (fun _ h=>by cases h) ?_;refine wp_store_row 72 (.tmp 7) (.tmp 11) rfl rfl V.heap.size rfl cs _ 72 rfl (zh V _) (by rw[hln];rfl) hics h1c ?_;intro wg hbg hcg;refine hK _ _ ?_);have cv:Chg 0 0 V wg:=(Chg.alloc (Chg.refl 0 0 V) _).step hcg (Or.inr (Or.inl (Nat.le_refl _)));refine hK' _ _ (qe.chg cv hMV (by omega)) (KpT.chg0 cv (fun k hk=>by unfold KA at hk;omega)) ?_ ⟨V.heap.size,by omega,hbg,rfl⟩
  exact hI' M _ V wg none hi' (qT cv) (fun r e=>by cases e)
 case body=>
  rintro M l' zs x a' V hM' hMV hi' ⟨Bx,hBx,hbx,rfl⟩ hlen;have hmx:Tryz.prog.follows .mixedOrders=true:=by kernel_rfl
  have y1a:wL.heap.size≤w.heap.size+5:=by omega
  have y1b:w.heap.size+5≤wL.heap.size:=by omega
  clear y1;have hx1:=x.1.isLt;have HLs:Hid (Xn (zs++ [x])=(x.1.val:Int)+1):=Kw zs x;have hwr:IntKind.i64.wrap ((x.1.val:Int)+1)=(x.1.val:Int)+1:=by rw[IntKind.wrap_i64];omega
  have hsV:=hi'.ch.size;have hKl: ∀k,KA (w.heap.size+4) lo hi k→k<V.heap.size∧(k<w.heap.size+2∨w.heap.size+4≤k):=fun k hk=>by unfold KA at hk;omega
  obtain⟨blk,hblk⟩: ∃blk,blk=(TL t).getD x.2.val []:=⟨_,rfl⟩;have hb64:blk.length=64:=by rw[hblk];exact h64 _ (Zx x.2)
  have hbby:Byt blk:=by rw[hblk];exact hTb _ (Zx x.2)
  rw[←hblk] at hbx⊢;have Hblk:Hid (blk=(TL t).getD x.2.val []):=hblk;clear hblk;obtain⟨cs,Hcs⟩: ∃cs,Hid (cs=blk.map (Value.int .u8)):=⟨_,rfl⟩;rw[←Hcs.out] at hbx⊢;have q4:=Boxed.cell hi'.ln;have q5:=Boxed.frozen hi'.ln;have cY:Chg (w.heap.size+2) (w.heap.size+4) V (V.setCell (zd (w.heap.size+3)) (za ((x.1.val:Int)+1))):=(Chg.refl _ _ V).setCell (Or.inl (by simp)) _;have HI1:Hid (ArI w (.slice sa bs.length sc) bs (TL t) zs V):=hi'
  have Y0:(V.setCell (zd (w.heap.size+3)) (za ((x.1.val:Int)+1))).heap[w.heap.size+3]?=some (.cells #[za ((x.1.val:Int)+1)] 2 (0,0)):=Boxed.set _ hi'.ln;have Y1:(V.setCell (zd (w.heap.size+3)) (za ((x.1.val:Int)+1))).heap[w.heap.size]?=some (.cells #[.slice sa bs.length sc] 80 (0,0)):=(Below.heap_setCell _ _ _ _ (by simp)).trans hi'.bb;have Y2:(V.setCell (zd (w.heap.size+3)) (za ((x.1.val:Int)+1))).heap[w.heap.size+1+1]?=some (.cells #[.bool false] 4 (0,0)):=(Below.heap_setCell _ _ _ _ (by simp)).trans hi'.rs
  have Y3:(V.setCell (zd (w.heap.size+3)) (za ((x.1.val:Int)+1))).heap[Bx]?=some (.cells cs.toArray 72 (0,0)):=(Below.heap_setCell _ _ _ _ (by simp;omega)).trans hbx;have hsY:(V.setCell (zd (w.heap.size+3)) (za ((x.1.val:Int)+1))).heap.size=V.heap.size:=by simp
  have CV:Chg 0 0 w (V.setCell (zd (w.heap.size+3)) (za ((x.1.val:Int)+1))):=hi'.ch.step cY (by omega);have KY:qe wL.heap.size M V (V.setCell (zd (w.heap.size+3)) (za ((x.1.val:Int)+1)))∧KpT (KA (w.heap.size+4) lo hi) (wL.heap.size+2) V (V.setCell (zd (w.heap.size+3)) (za ((x.1.val:Int)+1))):=by
   refine⟨qe.chg cY hMV (by omega),KpT.chg cY hKl (fun k h1 h2=>?_)⟩;have hk:k=w.heap.size+1+1∨k=w.heap.size+3:=by omega
   rcases hk with rfl|rfl
   ·exact⟨_,_,_,hi'.rs,by unfold tyA;decide⟩
   ·exact⟨_,_,_,hi'.ln,by unfold tyA;decide⟩
  clear hi' hbx cY hseq;gi_wp2;generalize V.setCell (zd (w.heap.size+3)) (za ((x.1.val:Int)+1))=Y at*;refine Zb (fun w':World=>(w'.heap[w.heap.size]?=some (.cells #[.slice sa bs.length sc] 80 (0,0))∧w'.heap[w.heap.size+3]?=some (.cells #[za ((x.1.val:Int)+1)] 2 (0,0)))∧w'.heap[Bx]?=some (.cells cs.toArray 72 (0,0))∧adm w sa w') hmx ?_;have HS:Hid ((fun w':World=>(w'.heap[w.heap.size]?=some (.cells #[.slice sa bs.length sc] 80 (0,0))∧w'.heap[w.heap.size+3]?=some (.cells #[za ((x.1.val:Int)+1)] 2 (0,0)))∧w'.heap[Bx]?=some (.cells cs.toArray 72 (0,0))∧adm w sa w') Y.drew):=⟨⟨Y1,Y0⟩,Y3,fun g hg=>CV.block g (World.ownsRow.lt hs g (by rw[hg];rfl)).2 (by omega)⟩
  have cd:Chg 0 0 Y Y.drew:=Chg.drew (Chg.refl _ _ Y);have HK:Hid (∀k:Nat,Y.drew.heap[k]?=Y.heap[k]?):=fun k=>rfl;have hsd:Y.drew.heap.size=Y.heap.size:=rfl;have Z2:Y.drew.heap[w.heap.size+1+1]?=some (.cells #[.bool false] 4 (0,0)):=Y2;have HCd:Hid (Chg 0 0 w Y.drew):=CV.drew;have HKd:Hid (qe wL.heap.size M V Y.drew∧KpT (KA (w.heap.size+4) lo hi) (wL.heap.size+2) V Y.drew):=⟨⟨KY.1.size,KY.1.same⟩,KY.2⟩
  clear cd HK KY CV Y0 Y1 Y2 Y3 q4 q5;generalize Y.drew=X at*;have q2:=Boxed.cell Z2;have q3:=Boxed.frozen Z2;have HZ2:Hid (X.heap[w.heap.size+1+1]?=some (.cells #[.bool false] 4 (0,0))):=Z2;have HX:Hid (¬(x.1.val<bs.length∧bs.getD x.1.val []=(TL t).getD x.2.val [])→(qe wL.heap.size M V (X.setCell ⟨w.heap.size+1+1,0,none⟩ (.bool false))∧KpT (KA (w.heap.size+4) lo hi) (wL.heap.size+2) V (X.setCell ⟨w.heap.size+1+1,0,none⟩ (.bool false)))∧ArX w bs (TL t) .ret (zs++ [x]) (X.setCell ⟨w.heap.size+1+1,0,none⟩ (.bool false))):=by
   intro hno;have cY:Chg (w.heap.size+2) (w.heap.size+4) X (X.setCell ⟨w.heap.size+1+1,0,none⟩ (.bool false)):=(Chg.refl _ _ X).setCell (Or.inl (by simp)) _;have hX:KpT (KA (w.heap.size+4) lo hi) (wL.heap.size+2) X (X.setCell ⟨w.heap.size+1+1,0,none⟩ (.bool false)):=KpT.chg cY (fun k hk=>by have:=hKl k hk;omega) (fun k h1 h2=>by
    have hk:k=w.heap.size+1+1∨k=w.heap.size+3:=by omega
    rcases hk with rfl|rfl
    ·exact⟨_,_,_,HZ2.out,by unfold tyA;decide⟩
    ·exact⟨_,_,_,HS.out.1.2,by unfold tyA;decide⟩)
   exact⟨⟨HKd.out.1.trans (qe.chg cY (by omega) (by omega)),HKd.out.2.trans hX⟩,rfl,Boxed.set _ HZ2.out,⟨x,by simp,hno⟩,HCd.out.step cY (by omega)⟩
  refine rTk 0 (za ((x.1.val:Int)+1)) rfl (fun w' hw'=>by have h4:=Boxed.cell hw'.1.2;go_simp) HS.out ?_;go_simp;refine rTk 1 (.slice sa bs.length sc) rfl (fun w' hw'=>by have h4:=Boxed.cell hw'.1.1;go_simp) HS.out ?_;go_simp;refine rTk 2 (za (bs.length:Int)) rfl (fun w' hw'=>by go_simp) HS.out ?_;go_simp;by_cases hc:bs.length≤x.1.val
  ·have hd1:decide ((bs.length:Int)<(x.1.val:Int)+1)=true:=decide_eq_true (by omega);refine rTk 3 (.bool true) rfl (fun w' hw'=>by go_simp) HS.out ?_;go_simp;refine rTk 4 (.bool true) rfl (fun w' hw'=>by go_simp) HS.out ?_;go_simp;refine qR 5 (undef) rfl (by kernel_rfl) (by kernel_rfl) (by kernel_rfl) (by kernel_rfl) (fun _ _ _ h=>h) (.inr ⟨by kernel_rfl,rfl⟩) HS.out ?_;go_simp;refine qR 6 (undef) rfl (by kernel_rfl) (by kernel_rfl) (by kernel_rfl) (by kernel_rfl) (fun _ _ _ h=>h) (.inr ⟨by kernel_rfl,rfl⟩) HS.out ?_
   go_simp;refine qR 7 (undef) rfl (by kernel_rfl) (by kernel_rfl) (by kernel_rfl) (by kernel_rfl) (fun _ _ _ h=>h) (.inr ⟨by kernel_rfl,rfl⟩) HS.out ?_;go_simp;refine qR 8 (undef) rfl (by kernel_rfl) (by kernel_rfl) (by kernel_rfl) (by kernel_rfl) (fun _ _ _ h=>h) (.inr ⟨by kernel_rfl,rfl⟩) HS.out ?_;go_simp;refine qR 9 (undef) rfl (by kernel_rfl) (by kernel_rfl) (by kernel_rfl) (by kernel_rfl) (fun _ _ _ h=>h) (.inr ⟨by kernel_rfl,rfl⟩) HS.out ?_
   go_simp;refine qR 10 (undef) rfl (by kernel_rfl) (by kernel_rfl) (by kernel_rfl) (by kernel_rfl) (fun _ _ _ h=>h) (.inr ⟨by kernel_rfl,rfl⟩) HS.out ?_;go_simp;refine rTk 11 (.bool true) rfl (fun w' hw'=>by go_simp) HS.out ?_;go_simp;refine qD (by kernel_rfl) ?_;refine jh.mk ?_;have hfin:=HX.out (fun h=>by omega);clear HX;gi_wp2;exact hfin
  ·have hd1:decide ((bs.length:Int)<(x.1.val:Int)+1)=false:=decide_eq_false (by omega);have hlt:x.1.val<bs.length:=by omega
   obtain⟨g,cap,esa,hrg⟩:=Uk hs hb hlt;obtain⟨rfl,_,rfl⟩:sa=some (zd g)∧bs.length=bs.length∧sc=cap:=by simpa using esa
   obtain⟨bl2,hbl2⟩: ∃bl2,bl2=bs.getD x.1.val []:=⟨_,rfl⟩;have hm2:bl2∈bs:=by rw[hbl2,List.getD_eq_getElem?_getD,List.getElem?_eq_getElem hlt];exact List.getElem_mem hlt
   have hl2:=hb _ hm2;have hb2:=hbb _ hm2;rw[←hbl2] at hrg HX;have Hrg:Hid (w.rangeAt g (x.1.val*64) (bl2.map (Value.int .u8))):=hrg;have u28:=Tryz.underlying72;have hEq: ∀W,(Op.equalIn 10000 72 (.agg (bl2.map (Value.int .u8)).toArray) (.agg (blk.map (Value.int .u8)).toArray)).run Tryz.prog W= .ok (decide (bl2=blk)) W:=fun W=>qW W _ 64 u28 hb2 hbby hl2 hb64;have hics:(Tryz.prog.info? 72).map (·.size)=some (bl2.map (Value.int .u8)).length:=by rw[List.length_map,hl2];kernel_rfl
   have hicc:(Tryz.prog.info? 72).map (·.size)=some cs.length:=by rw[Hcs.out,List.length_map,hb64];kernel_rfl
   have Hbl2:Hid (bl2=bs.getD x.1.val []):=hbl2;rw[←Hcs.out] at hEq;generalize bl2.map (Value.int .u8)=ds at*;have hik:(x.1.val:Int)<(bs.length:Int):=by omega
   clear hbl2 hrg hl2 hb2 hbby esa;refine rTk 3 (.bool false) rfl (fun w' hw'=>by go_simp) HS.out ?_;go_simp;refine rTk 4 (.bool false) rfl (fun w' hw'=>by go_simp) HS.out ?_;go_simp;refine rTk 5 (.slice (some (zd g)) bs.length sc) rfl (fun w' hw'=>by have h4:=Boxed.cell hw'.1.1;go_simp) HS.out ?_;go_simp;refine rTk 6 (za (x.1.val:Int)) rfl (fun w' hw'=>by go_simp) HS.out ?_;go_simp;refine rTk 7 (.pointer (some ⟨g,x.1.val*64,none⟩)) rfl (fun w' hw'=>by go_simp) HS.out ?_
   go_simp;refine qR 8 (.agg ds.toArray) rfl (by kernel_rfl) (by kernel_rfl) (by kernel_rfl) (by kernel_rfl) (fun _ _ _ h=>h) (yieldsIf_load_mid (by kernel_rfl) 72 (.tmp 21) rfl g (x.1.val*64) rfl ds _ (fun w' hw' j v hj=>(World.cell?_of_block (a:=⟨g,x.1.val*64+j,none⟩) (hw'.2.2 g rfl)).trans (Hrg.out j v hj)) u28 rfl hics) HS.out ?_;go_simp;refine qR 9 (.agg cs.toArray) rfl (by kernel_rfl) (by kernel_rfl) (by kernel_rfl) (by kernel_rfl) (fun _ _ _ h=>h) (yieldsIf_load_mid (by kernel_rfl) 72 (.tmp 7) rfl Bx 0 rfl cs _ (fun w' hw'=>zj hw'.2.1) u28 rfl hicc) HS.out ?_
   go_simp;by_cases he:bl2=blk
   ·have hEq': ∀W,(Op.equalIn 10000 72 (.agg ds.toArray) (.agg cs.toArray)).run Tryz.prog W= .ok true W:=fun W=>by rw[hEq W,decide_eq_true he]
    clear hEq;refine rTk 10 (.bool false) rfl (fun w' hw'=>by go_simp) HS.out ?_;go_simp;refine rTk 11 (.bool false) rfl (fun w' hw'=>by go_simp) HS.out ?_;go_simp;refine qD (by kernel_rfl) ?_;refine jh.mk ?_;have HF:Hid ((qe wL.heap.size M V X∧KpT (KA (w.heap.size+4) lo hi) (wL.heap.size+2) V X)∧ArI w (.slice (some (zd g)) bs.length sc) bs (TL t) (zs++ [x]) X):=by
     refine⟨HKd.out,HS.out.1.1,HZ2.out,by rw[HLs.out];exact HS.out.1.2,fun z hz=>?_,HCd.out⟩;rcases List.mem_append.1 hz with hz|hz
     ·exact HI1.out.al z hz
     ·rw[List.mem_singleton.1 hz];exact⟨hlt,by rw[←Hbl2.out,he,Hblk.out]⟩
    clear HX HKd HS HI1;gi_wp2;exact HF.out
   ·have hEq': ∀W,(Op.equalIn 10000 72 (.agg ds.toArray) (.agg cs.toArray)).run Tryz.prog W= .ok false W:=fun W=>by rw[hEq W,decide_eq_false he]
    clear hEq;refine rTk 10 (.bool true) rfl (fun w' hw'=>by go_simp) HS.out ?_;go_simp;refine rTk 11 (.bool true) rfl (fun w' hw'=>by go_simp) HS.out ?_;go_simp;refine qD (by kernel_rfl) ?_;refine jh.mk ?_;have hfin:=HX.out (fun h=>he (by rw[Hblk.out];exact h.2));clear HX;gi_wp2;exact hfin
 case done=>
  rintro M D zs V hD hS hi' hK';have hlp:=Kv hS;have hall: ∀i,i<(TL t).length→i<bs.length∧bs.getD i []=(TL t).getD i []:=fun i hi=>by
   have hm:=U4 hi;rw[←hS] at hm;obtain⟨z,hz,e⟩:=List.mem_map.1 hm;have e1:z.1.val=i:=congrArg Prod.fst e;have e2:z.2.val=i:=congrArg Prod.snd e;have:=hi'.al z hz;rw[e1,e2] at this;exact this
  have hrz:rz=decide (((TL t).length:Int)=(bs.length:Int)):=by
   rw[Hrz.out];congr 1;apply propext;constructor
   ·intro h;rw[h]
   ·intro h;apply List.ext_getElem
    ·omega
    ·intro i h1 h2;have:=(hall i h1).2;simp only[List.getD_eq_getElem?_getD,List.getElem?_eq_getElem h1,List.getElem?_eq_getElem h2,Option.getD_some] at this;exact this.symm
  have hln:=hi'.ln;rw[hlp] at hln;have q1:=Boxed.cell hln;have q2:=Boxed.cell hi'.rs;have q3:=Boxed.frozen hi'.rs;have q4:=Boxed.cell hi'.bb;have hsV:=hi'.ch.size;have Hrs:Hid (V.heap[w.heap.size+1+1]?=some (.cells #[.bool false] 4 (0,0))):=hi'.rs;have Hch:Hid (Chg 0 0 w V):=hi'.ch;have hrz':decide (((TL t).length:Int)=(bs.length:Int))=rz:=hrz.symm;have hrz2:(((TL t).length:Int)==(bs.length:Int))=rz:=by rw[←hrz'];rfl
  clear hall hlp hS hln hi' hrz;generalize ((TL t).length:Int)=m1 at*;gi_wp2;have cY:Chg (w.heap.size+2) (w.heap.size+4) V (V.setCell ⟨w.heap.size+1+1,0,none⟩ (.bool rz)):=(Chg.refl _ _ V).setCell (Or.inl (by simp)) _;have hb:=Boxed.set (.bool rz) Hrs.out;have hDl:=(gLt hK');have hK2:=(cY.block D hDl (by omega)).trans hK';have cw:=Hch.out.step cY (by omega);generalize V.setCell ⟨w.heap.size+1+1,0,none⟩ (.bool rz)=Y at*
  refine⟨by simp,.inl ⟨_,_,rfl,run_takeDeferred hK2,?_⟩⟩;refine⟨_,zu Tryz.results110 rfl (Ua ((World.putObj_heap_other (by omega)).trans hb)),rfl,?_⟩;exact cw.step (l:=D) (r:=D+1) ⟨rfl,rfl,rfl,by simp,fun k _ ho=>World.putObj_heap_other (by omega)⟩ (by omega)
 case stop=>
  rintro M D c zs V hD hSp ⟨rfl,hrs,⟨z,hz,hzr⟩,hch⟩ hK';have hne: ¬TL t=bs:=by
   intro e;have hm:(z.1.val,z.2.val)∈ZD zs:=List.mem_map.2 ⟨z,hz,rfl⟩;rw[hSp] at hm;have e1:=(U5 hm).1;have e2:=z.2.isLt;simp only at e1;rw[←e] at hzr;exact hzr ⟨by omega,by rw[e1]⟩
  have hrz:=Hrz.out;rw[decide_eq_false hne] at hrz;have Hr0:Hid (rz=false):=hrz;clear hne hrz;gi_wp2;refine⟨by simp,.inl ⟨_,_,rfl,run_takeDeferred hK',?_⟩⟩;refine⟨_,zu Tryz.results110 rfl (Ua ((World.putObj_heap_other (by omega)).trans hrs)),by rw[Hr0.out],?_⟩;exact hch.step (l:=D) (r:=D+1) ⟨rfl,rfl,rfl,by simp,fun k _ ho=>World.putObj_heap_other (by omega)⟩ (by omega)
end Go.Proofs.YtacjklochmelfaaGreatDoor
