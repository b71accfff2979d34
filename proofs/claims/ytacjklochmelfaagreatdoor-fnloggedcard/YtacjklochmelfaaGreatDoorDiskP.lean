import Derived.Test.YtacjklochmelfaaGreatDoorSettle
import Derived.Test.YtacjklochmelfaaGreatDoorWeak
import Derived.Great.BuildSlice
import Derived.Test.YtacjklochmelfaaGreatDoorRowsE
namespace Go.Proofs.YtacjklochmelfaaGreatDoor
open Go.RowKit
set_option maxRecDepth 100000
set_option maxHeartbeats 16000000
theorem Xj (w:World)(gD n:Nat)(xs:List Int)(hrow:w.heap[gD]?=some (.cells (xs.map (Value.int .u8)).toArray 72 (0,0)))(hl:xs.length=n*64)(hn1:1≤n)(hn:n≤2048):
  Calls Tryz.prog 37 #[.slice (some (zd gD)) n n] w fun e w'=> ∃g,e= .returned (.slice (some (zd g)) (n*64) (n*64))∧zi w' w.heap.size 5 (.slice (some (zd g)) (n*64) (n*64)) xs∧Chg 0 0 w w':=by
 obtain⟨i,hi,hz0,hz1,hz2⟩:=info_parts Tryz.infoU;have hgz:gD<w.heap.size:=(gLt hrow);have Hrow:Hid (w.heap[gD]?=some (.cells (xs.map (Value.int .u8)).toArray 72 (0,0))):=hrow;have Hl:Hid (xs.length=n*64):=hl;clear hrow hl;go_enter Tryz.func37,Tryz.ntmps37;go_wp2_with (at_make;refine wpList_make_full _ rfl _ _ 22 rfl w.heap.size 5 i (zb 0) 1 Tryz.underlying22 hi hz0 hz1 _ _ _ _ (n*64) rfl rfl (by omega) (by omega) (by rw[hz2];omega) (by unfold maxLen;omega) (Nat.le_refl _) ?_)
 intro w1 hown hgrow;have C1:Chg 0 0 w w1:=Chg.ofGrown hgrow (by simp);have G1:Hid (w1.heap[w.heap.size]?=some (.cells (Zw xs n 0).toArray 5 (0,0))):=by
  rcases hown.2 with⟨h',_⟩|⟨g',cap',cur,h',hb,hg,_,_,hs,ht⟩
  ·cases h'
  ·simp only[Value.slice.injEq,Option.some.injEq,Addr.mk.injEq,and_true,true_and] at h';obtain⟨rfl,rfl⟩:=h';show _=_;have hc:cur.toList=(Zw xs n 0):=by
    rw[List.take_of_length_le (by rw[Array.length_toList,hs];exact Nat.le_refl _)] at ht;rw[ht];unfold Zw;simp[toList_madeCells_one]
   rw[hg,←hc]
 have s1:w.heap.size<w1.heap.size:=by have:=(gLt G1.out);omega
 clear hown hgrow;go_wp2;go_loopw [12] (fun i wr=> ∃k:Nat,k≤n∧i=za k∧Chg 0 0 w wr∧w1.heap.size≤wr.heap.size∧wr.heap[w.heap.size]?=some (.cells (Zw xs n k).toArray 5 (0,0))) (fun i _=>n-(intOf i).toNat)
 case atStart=>exact⟨0,Nat.zero_le _,rfl,C1,Nat.le_refl _,G1.out⟩
 case round=>
  obtain⟨k,hk,rfl,hcw,hsz,hrow⟩:=hrel;have HR:Hid (wr.heap[w.heap.size]?=some (.cells (Zw xs n k).toArray 5 (0,0))):=hrow;clear hrow;by_cases hlt:k<n
  ·obtain⟨cs,hcs⟩: ∃cs,cs=((xs.drop (k*64)).take 64).map (Value.int .u8):=⟨_,rfl⟩;have hle:(k+1)*64≤n*64:=Nat.mul_le_mul_right _ hlt;have hll:=Hl.out;have L1:cs.length=64:=by rw[hcs];simp;omega
   have L2: ∀v∈cs,v.oneCell'=true:=by rw[hcs];exact ints_oneCell _ _
   have hgw:wr.heap[gD]?=some (.cells (xs.map (Value.int .u8)).toArray 72 (0,0)):=(hcw.block gD hgz (by omega)).trans Hrow.out;have R0:wr.rangeAt gD (k*64) cs:=by
    intro j v hj;have hj64:j<64:=by have:=(List.getElem?_eq_some_iff.1 hj).1;omega
    rw[cell_of_row wr gD (k*64+j) _ _ _ hgw,←hj,hcs,List.getElem?_map,List.getElem?_take,if_pos hj64,List.getElem?_drop];simp
   have L4:=Yh xs n k hll hk;have L5:=Yi xs n k hll hlt;rw[←hcs] at L5;have HR0:Hid (wr.rangeAt gD (k*64) cs):=R0;have HL1:Hid (cs.length=64):=L1;have HL2:Hid (∀v∈cs,v.oneCell'=true):=L2;have HL4:Hid ((Zw xs n k).length=n*64):=L4;have HL5:Hid (splice (Zw xs n k) (k*64) cs=Zw xs n (k+1)):=L5;have Hsz:Hid (cs.toArray.size=64):=by show _=_;simpa using L1
   have u85:=Tryz.underlying72;have i85:Hid ((Tryz.prog.info? 72).map (·.size)=some cs.toArray.size):=by show _=_;rw[Hsz.out];kernel_rfl
   have i85l:Hid ((Tryz.prog.info? 72).map (·.size)=some cs.length):=by show _=_;rw[L1];kernel_rfl
   clear R0 L1 L2 L4 L5 hcs hgw hll;have hik:(k:Int)<(n:Int):=by omega
   go_wp2_with (first
    |(refine wpList_load_mid rfl 72 (.tmp 15) rfl gD (k*64) rfl cs _ HR0.out u85 rfl i85l.out ?_)
    |(refine wpList_store_mid rfl 72 (.tmp 5) (.tmp 16) rfl wr.heap.size 0 cs.toArray rfl rfl (by rw[Hsz.out];exact Jo wr _ _ 64 rfl) i85.out (all_oneCell_toArray HL2.out) ?_))
   generalize hW:World.setCells (World.alloc wr _) _ _ _=W7;have F1:W7.heap[wr.heap.size]?=some (.cells cs.toArray 72 (0,0)):=by rw[←hW];exact(filled (by rw[HL1.out];rfl)).1
   have F2:Chg 0 0 wr W7:=by rw[←hW];exact(filled (by rw[HL1.out];rfl)).2
   clear hW;have hrow7:W7.heap[w.heap.size]?=some (.cells (Zw xs n k).toArray 5 (0,0)):=(F2.block w.heap.size (by omega) (by omega)).trans HR.out;have Hrow7:Hid (W7.heap[w.heap.size]?=some (.cells (Zw xs n k).toArray 5 (0,0))):=hrow7;have hsrc: ∀j v,cs[j]?=some v→W7.cell? (((zd wr.heap.size):Addr).add j)=some v:=by
    intro j v hj;rw[Addr.add_mid,Nat.zero_add,cell_of_row W7 wr.heap.size j _ _ _ F1];simpa using hj
   have Hsrc:Hid (∀j v,cs[j]?=some v→W7.cell? (((zd wr.heap.size):Addr).add j)=some v):=hsrc;have C7:=hcw.trans F2;have s7:=F2.size;have e2:(0:Int)≤(k:Int)*64:=by omega
   have e3:(k:Int)*64≤(n:Int)*64:=by omega
   have e3':(k:Int)*64≤((n*64:Nat):Int):=by omega
   have e5: ¬n*64=k*64:=by omega
   have e5': ¬n=k:=by omega
   have e6:IntKind.i64.wrap ((k:Int)*64)=(k:Int)*64:=by rw[IntKind.wrap_i64];omega
   have e7:((k:Int)*64).toNat=k*64:=by omega
   clear F1 F2 hrow7 hsrc HR hcw HR0 u85 i85 i85l Hsz;go_region_held3 (fun _=>True) (trivial)
    ((refine JJ rfl (.tmp 20) (.tmp 21) 22 22 rfl 5 Tryz.underlying22 (by kernel_rfl) w.heap.size (k*64) (n*64-k*64) (n*64-k*64) (zd wr.heap.size) 64 64 rfl rfl _ _ Hrow7.out cs (by rw[HL1.out];show 64=min 64 _;omega) Hsrc.out (by rw[HL1.out,HL4.out];omega) HL2.out ?_;intro w2 H2 C2))
   have R1:Chg 0 0 w w2:=(C7.drew).step C2 (Or.inr (Or.inl (Nat.le_refl _)));have R2:Hid (w2.heap[w.heap.size]?=some (.cells (Zw xs n (k+1)).toArray 5 (0,0))):=by
    have:=H2.out;rw[HL5.out] at this;exact this
   have R3:w1.heap.size≤w2.heap.size:=by have h1:W7.drew.heap.size≤w2.heap.size:=C2.size;have h2:W7.drew.heap.size=W7.heap.size:=rfl;omega
   clear C2 H2 C7 Hrow7 Hsrc HL1 HL2 HL4 HL5;go_wp2;go_roundw
   case rel=>exact⟨k+1,by omega,by go_num,R1,R3,R2.out⟩
   case measure=>simp[intOf];omega
  ·obtain rfl:k=n:=by omega
   have HO:Hid (zi wr w.heap.size 5 (.slice (some (zd w.heap.size)) (k*64) (k*64)) xs):=by
    have h1:=HR.out;rw[U6 xs k Hl.out] at h1;show zi _ _ _ _ _;unfold zi;rw[Hl.out];refine⟨by simp[Hl.out],Or.inr ⟨w.heap.size,_,_,rfl,Nat.le_refl _,h1,Nat.le_refl _,by unfold maxLen;omega,by simp[Hl.out],?_⟩⟩;exact List.take_of_length_le (by simp[Hl.out])
   clear HR Hrow Hl G1;go_wp2;go_ret;exact⟨_,rfl,HO.out,hcw⟩
theorem E6 (w:World){base p:Nat}{d:Dsk}(h:Dev w base p d)(hp0:d.pend= []):
  Calls Tryz.prog 19 #[.pointer (some (zd p))] w fun e w'=> ∃v,e= .returned v∧qK w' w.heap.size w'.heap.size 84 5 v d∧Chg 0 0 w w':=by
 obtain⟨gD,po,cap,hv,hp,hgD,hbox,hdur,_⟩:=h.pend_ne;rw[hp0] at hbox;have hbox:w.heap[p]?=some (.cells #[.slice (some (zd gD)) (d.dur.length/64) (d.dur.length/64),.slice po 0 cap] 83 (0,0)):=hbox;have hpz:p<w.heap.size:=(gLt hbox);have hgz:gD<w.heap.size:=(gLt hdur);have h64:=hv.1;have hn1:=hv.2.1;have hn:=hv.2.2.1;have C0:Chg 0 0 w (w.alloc (.cells #[zc,zc] 26)):=Chg.alloc (Chg.refl 0 0 w) _;have B0:=zh w (.cells #[zc,zc] 26)
 have s0:(w.alloc (.cells #[zc,zc] 26)).heap.size=w.heap.size+1:=by simp
 have hdur0:=(C0.block gD hgz (by omega)).trans hdur;have hbox0:=(C0.block p hpz (by omega)).trans hbox;obtain⟨b0,b1,_,_⟩:=zn hbox0;have HP0:Hid (d.pend= []):=hp0;clear hdur hbox h hv hp0;go_enter Tryz.func19,Tryz.ntmps19;go_wp2_with fail;generalize w.alloc (.cells #[zc,zc] 26)=wa at*;refine(Xj _ gD _ d.dur hdur0 (by omega) hn1 hn).mono ?_;rintro e wb ⟨g,rfl,ho,hb⟩;rw[show d.dur.length/64*64=d.dur.length from by omega] at*
 have sb:=hb.size;have gb:=ho.lt g rfl;have B0:=(hb.block w.heap.size (by omega) (by omega)).trans B0;have hbox1:=(hb.block p (by omega) (by omega)).trans hbox0;have hB:=C0.trans hb;clear hb C0 hdur0 hbox0 b0 b1;have C1:Chg 0 0 wb (wb.alloc (.cells #[.slice (some (zd g)) d.dur.length d.dur.length,zc] 26)):=Chg.alloc (Chg.refl 0 0 wb) _;have B2:=zh wb (.cells #[.slice (some (zd g)) d.dur.length d.dur.length,zc] 26)
 have B0:=(C1.block w.heap.size (by omega) (by omega)).trans B0;have hbox2:=(C1.block p (by omega) (by omega)).trans hbox1;have s2:(wb.alloc (.cells #[.slice (some (zd g)) d.dur.length d.dur.length,zc] 26)).heap.size=wb.heap.size+1:=by simp
 obtain⟨b0,b1,_,_⟩:=zn hbox2;obtain⟨y0,y1,yf0,yf1⟩:=zn B0;obtain⟨u0,u1,_,_⟩:=zn B2;have ho2:=(ho.chg C1 (by intro g' _;omega)).base (base':=w.heap.size) (fun g' hg'=>by cases hg';show w.heap.size≤g;omega);have hC:=hB.trans C1;clear hB C1 ho hbox1 hbox2 B2;go_wp2;generalize wb.alloc (.cells #[.slice (some (zd g)) d.dur.length d.dur.length,zc] 26)=wd at*;have hgs:g<wd.heap.size:=by omega
 have HO:Hid (qK ((wd.setCell (zd w.heap.size) (.slice (some (zd g)) d.dur.length d.dur.length)).setCell ⟨w.heap.size,1,none⟩ (zc)) w.heap.size wd.heap.size 84 5 (.agg #[.slice (some (zd g)) d.dur.length d.dur.length,zc]) d):=by
  have n1:(Value.slice (some (zd g)) d.dur.length d.dur.length).ownBlock≠some w.heap.size:=by simp[Value.ownBlock];omega
  refine⟨_,_,[],fun _=>zc,rfl,(ho2.set (p:=(zd w.heap.size)) n1 _).set (p:=⟨w.heap.size,1,none⟩) n1 _,by rw[HP0.out];exact Zj.nil _ _ _ _,by rw[HP0.out];simp,?_,by simp[Value.ownBlock],by rw[HP0.out];simp⟩;intro g' hg'
  cases hg'
  exact hgs
 have HC:Hid (Chg 0 0 w ((wd.setCell (zd w.heap.size) (.slice (some (zd g)) d.dur.length d.dur.length)).setCell ⟨w.heap.size,1,none⟩ (zc))):=hC.step (Chg.set2 _ _ _ _) (by omega);have HS:Hid (((wd.setCell (zd w.heap.size) (.slice (some (zd g)) d.dur.length d.dur.length)).setCell ⟨w.heap.size,1,none⟩ (zc)).heap.size=wd.heap.size):=by show _=_;simp[World.setCell]
 clear ho2 hC B0 HP0;refine wp_loop_rounds 1 ?_;rw[rounds_succ];go_wp2;refine bodyPost_ret (v:= .agg #[.slice (some (zd g)) d.dur.length d.dur.length,zc]) (by simp[results,Tryz.results19,go_sem,y0,y1]) rfl ⟨_,rfl,?_,HC.out⟩;rw[HS.out];exact HO.out
theorem aaI (ps:List Wr)(p:Wr):flat (ps++ [p])=flat ps++jE p:=by simp[flat]
theorem abV (A:Array Value)(hr:A.size=65)(full:List Value)(h:full.length=65):
  Instr.fill (fun i=>some (i*65,65)) A [(0,.agg full.toArray)]=some full.toArray:=by
 have hf:=ZK 0 full 0 A (by omega);have e:splice A.toList (0+0) full=full:=by
  unfold splice;have hal:A.toList.length=65:=hr;simp only[Nat.zero_add,List.take_zero,List.nil_append];rw[List.drop_of_length_le (by omega),List.append_nil]
 rw[e] at hf;have hf2:List.foldl (fun(B:Array Value) (p:Value×Nat)=>B.setIfInBounds (0+p.2) p.1) A (full.zipIdx 0)=full.toArray:=Array.ext' (by simpa using hf);simp only[Nat.zero_add] at hf2;simp[Instr.fill,Value.cells,hr,h,hf2]
theorem qV.snoc {d:Dsk}(hv:qV d)(hm:d.pend.length<600){a:Nat}(ha:a<d.dur.length/64){ys:List Int}(hy:ys.length=64):qV ⟨d.dur,d.pend++ [((a:Int),ys)]⟩:=by
 refine⟨hv.1,hv.2.1,hv.2.2.1,by simp;omega,fun i hi=>?_⟩;simp only[List.length_append,List.length_cons,List.length_nil] at hi;by_cases e:i<d.pend.length
 ·have:=hv.2.2.2.2 i e;simpa [List.getD_eq_getElem?_getD,List.getElem?_append_left e] using this
 ·obtain rfl:i=d.pend.length:=by omega
  simp only[List.getD_eq_getElem?_getD,List.getElem?_concat_length,Option.getD_some];exact⟨by show(0:Int)≤(a:Int);omega,by show(a:Int)<((d.dur.length/64:Nat):Int);omega,hy⟩
theorem abn (w:World){base p lo hi:Nat}{d:Dsk}{b:Value}(a:Nat)(ys:List Int)(h:Dev w base p d)(hb:zr w lo hi .u8 b ys)(hlo:hi≤base)(hy:ys.length=64)(ha:a<d.dur.length/64)(hm:d.pend.length<600):
  Calls Tryz.prog 89 #[.pointer (some (zd p)),za a,b] w fun e w'=>e= .returned (.bool true)∧Dev w' base p ⟨d.dur,d.pend++ [((a:Int),ys)]⟩∧Chg base w.heap.size w w':=by
 have Hh:Hid (Dev w base p d):=h;have hps:=h.lt;obtain⟨gD,pv,hv,hp,hbx,hdr,hpr⟩:=h;obtain⟨po,pn,pc,rfl⟩:=zx hpr;obtain⟨c0,c1,f0,f1⟩:=zn hbx;have hpn:pn=d.pend.length:=by
  rcases hpr.2 with⟨e,h0⟩|⟨g,cap,cur,e,_⟩
  ·cases e;exact h0.symm
  ·simp only[Value.slice.injEq] at e;exact e.2.1
 subst hpn;obtain⟨bo,bcap,rfl,_,_,hbc⟩:=hb;obtain⟨xb,xo,rfl,hxh,hxc⟩: ∃xb xo,bo=some ⟨xb,xo,none⟩∧xb<hi∧ ∀i,i<ys.length→w.cell? ⟨xb,xo+i,none⟩=some (zb (ys.getD i 0)):=by
  rcases hbc with e|⟨x,o,e,_,hh,h⟩
  ·rw[e] at hy;simp at hy
  ·exact⟨x,o,e,hh,h⟩
 clear hbc;obtain⟨cs,hcs⟩: ∃cs,cs=ys.map (Value.int .u8):=⟨_,rfl⟩;have L1:cs.length=64:=by rw[hcs];simpa using hy
 have L2: ∀v∈cs,v.oneCell'=true:=by rw[hcs];exact ints_oneCell _ _
 have R0:w.rangeAt xb xo cs:=by
  intro j v hj;have hj64:j<ys.length:=by have:=(List.getElem?_eq_some_iff.1 hj).1;omega
  rw[hxc j hj64,←hj,hcs,List.getElem?_map];simp only[List.getD_eq_getElem?_getD];rw[List.getElem?_eq_getElem hj64];rfl
 have hfo:=Yl a cs L1;obtain⟨full,hfull⟩: ∃full,full=Value.int .i64 a::cs:=⟨_,rfl⟩;rw[←hfull] at hfo;have L3:full.length=65:=by rw[hfull,List.length_cons,L1]
 have L4: ∀v∈full,v.oneCell'=true:=by
  intro v hv;rw[hfull] at hv;rcases List.mem_cons.1 hv with rfl|hv
  ·rfl
  ·exact L2 v hv
 have HW:Hid (jE ((a:Int),ys)=full):=by show _=_;rw[hfull,hcs];rfl
 have har:=fun w=>Jz w ⟨xb,xo,none⟩ bcap;have hzc:=YF;have hz0: ¬Z65= #[]:=by intro e;have:=Qj;rw[e] at this;simp at this
 have hz1:=Qj;obtain⟨ic,hic,hcz0,hcz1,hcz2⟩:=info_parts Tryz.infoC;have Hbx:Hid (w.heap[p]?=some (.cells #[.slice (some (zd gD)) (d.dur.length/64) (d.dur.length/64),.slice po d.pend.length pc] 83 (0,0))):=hbx;have Hdr:Hid (w.ownsRow base 72 64 (.slice (some (zd gD)) (d.dur.length/64) (d.dur.length/64)) (d.dur.length/64) (d.dur.map (Value.int .u8))):=hdr;have Hpr:Hid (w.ownsRow base 86 65 (.slice po d.pend.length pc) d.pend.length (flat d.pend)):=hpr
 have HR0:Hid (w.rangeAt xb xo cs):=R0;have HL4:Hid (∀v∈full,v.oneCell'=true):=L4;have hVs:=hv.snoc hm ha hy;have HVs:Hid (qV ⟨d.dur,d.pend++ [((a:Int),ys)]⟩):=hVs;rw[hy];clear hxc hfull hcs L2 L4 hbx hdr hpr R0 hVs hv;go_enter Tryz.func89,Tryz.ntmps89;go_wp2_with fail;refine(YY _ a Hh.out (by omega) (by omega)).mono ?_;rintro e w2 ⟨rfl,rfl⟩;have hne:((64:Int) !=64)=false:=by simp
 go_wp2;refine zW 14 (fun w'=>w'.cell? ⟨p,1,none⟩=some (.slice po d.pend.length pc)∧w'.rangeAt xb xo cs) (by kernel_rfl) ?_;have hS:(fun w':World=>w'.cell? ⟨p,1,none⟩=some (.slice po d.pend.length pc)∧w'.rangeAt xb xo cs) w2.drew:=⟨c1,HR0.out⟩;have HS:Hid ((fun w':World=>w'.cell? ⟨p,1,none⟩=some (.slice po d.pend.length pc)∧w'.rangeAt xb xo cs) w2.drew):=hS;clear hS;refine wTk 0 (.pointer (some (zd p))) rfl (fun w' hw'=>by go_simp) HS.out ?_
 go_simp;refine wTk 1 (.pointer (some (zd p))) rfl (fun w' hw'=>by go_simp) HS.out ?_;go_simp;refine wTk 2 (.pointer (some (zd p))) rfl (fun w' hw'=>by go_simp) HS.out ?_;go_simp;refine wTk 3 (.pointer (some ⟨p,1,none⟩)) rfl (fun w' hw'=>by go_simp) HS.out ?_;go_simp;refine wTk 4 (.slice po d.pend.length pc) rfl (fun w' hw'=>by have h4:=hw'.1;go_simp) HS.out ?_;go_simp;refine wTk 5 (za a) rfl (fun w' hw'=>by go_simp) HS.out ?_
 go_simp;refine wTk 6 (.slice (some ⟨xb,xo,none⟩) 64 bcap) rfl (fun w' hw'=>by go_simp) HS.out ?_;go_simp;refine wTk 7 (.pointer (some ⟨xb,xo,none⟩)) rfl (fun w' hw'=>by go_simp) HS.out ?_;go_simp;refine ZT 8 (.agg cs.toArray) rfl (by kernel_rfl) (by kernel_rfl) (by kernel_rfl) (by kernel_rfl) (fun _ _ _ h=>h) (yieldsIf_load_mid (by kernel_rfl) 72 (.tmp 31) rfl xb xo rfl cs _ (fun w' hw'=>hw'.2) Tryz.underlying72 rfl (by rw[L1];kernel_rfl)) HS.out ?_
 go_simp;refine wTk 9 (.agg full.toArray) rfl (fun w' hw'=>by go_simp) HS.out ?_;go_simp;refine zq 10 rfl rfl (by kernel_rfl) ?_;refine wp_buildSlice 81 86 1 #[(0,.tmp 33)] rfl full.toArray ic _ Tryz.underlying81 hic hcz0 (by rw[hcz1];decide) (by rw[hcz1];decide) (by rw[hcz1,Array.toList_map];refine abV _ ?_ full L3;simp) ?_;have C3:Chg 0 0 w2 (w2.drew.alloc (.cells full.toArray 86)):=(Chg.drew (Chg.refl 0 0 w2)).alloc _
 have B3:=zh w2.drew (.cells full.toArray 86);have hown3:(w2.drew.alloc (.cells full.toArray 86)).ownsRow base 86 65 (.slice po d.pend.length pc) d.pend.length (flat d.pend):=World.ownsRow.alloc (World.ownsRow.drew Hpr.out) _;have hc3:=C3.cell c1 (by omega);have hr3:(w2.drew.alloc (.cells full.toArray 86)).rangeAt xb xo cs:=fun j v hj=>C3.cell (HR0.out j v hj) (by omega);have s3:(w2.drew.alloc (.cells full.toArray 86)).heap.size=w2.heap.size+1:=by simp
 have hds:w2.drew.heap.size=w2.heap.size:=rfl;rw[hds] at B3⊢;generalize w2.drew.alloc (.cells full.toArray 86)=w3 at*;refine⟨fun _=>⟨hc3,hr3⟩,?_⟩;go_simp;have hnews: ∀j u,full[j]?=some u→w3.cell? (((zd w2.heap.size):Addr).add j)=some u:=by
  intro j u hj;rw[Addr.add_mid,Nat.zero_add,cell_of_row w3 w2.heap.size j _ _ _ B3];simpa using hj
 refine zq 11 rfl rfl (by kernel_rfl) ?_;refine wp_append_own w3 (.tmp 28) (.tmp 34) 81 rfl base 86 ic _ 65 72 Tryz.underlying81 hic hcz0 hcz1 hcz2 rfl (by decide) _ _ (flat d.pend) rfl hown3 (zd w2.heap.size) 1 1 full rfl (by rw[L3]) hnews HL4.out (by unfold maxLen;omega) (by omega) (by have:=(World.ownsRow.lt Hdr.out gD rfl);omega) ?_;intro v' w4 hown4 hgrow _;obtain⟨vo,vl,vc,rfl⟩:=zx hown4;have hrowb: ∀k,(Value.slice po d.pend.length pc).ownBlock=some k→base≤k∧k<w2.heap.size:=fun k hk=>World.ownsRow.lt Hpr.out k hk
 have hpne: ∀k,(Value.slice po d.pend.length pc).ownBlock=some k→k≠p∧k≠gD:=by
  intro k hk;obtain⟨curP,hcP⟩: ∃cur,w2.heap[k]?=some (.cells cur 86 (0,0)):=by
   rcases Hpr.out.2 with⟨e,_⟩|⟨g,cap,cur,e,_,hh,_⟩
   ·rw[e] at hk;cases hk
   ·rw[e] at hk;cases hk;exact⟨cur,hh⟩
  obtain⟨curD,hcD⟩: ∃cur,w2.heap[gD]?=some (.cells cur 72 (0,0)):=by
   rcases Hdr.out.2 with⟨e,_⟩|⟨g,cap,cur,e,_,hh,_⟩
   ·cases e
   ·simp only[Value.slice.injEq,Option.some.injEq,Addr.mk.injEq,and_true] at e;obtain⟨rfl,_⟩:=e;exact⟨cur,hh⟩
  constructor
  ·intro e;rw[e,Hbx.out] at hcP;simp only[Option.some.injEq,Obj.cells.injEq] at hcP;exact absurd hcP.2.1 (by decide)
  ·intro e;rw[e,hcD] at hcP;simp only[Option.some.injEq,Obj.cells.injEq] at hcP;exact absurd hcP.2.1 (by decide)
 have K4: ∀k,k<w2.heap.size→(∀g,(Value.slice po d.pend.length pc).ownBlock=some g→k≠g)→w4.heap[k]?=w2.heap[k]?:=fun k hk hne'=>
  (hgrow.block k (by omega) (fun e=>hne' k e.symm rfl)).trans (C3.block k hk (by omega))
 have hbx4:w4.heap[p]?=some (.cells #[.slice (some (zd gD)) (d.dur.length/64) (d.dur.length/64),.slice po d.pend.length pc] 83 (0,0)):=(K4 p hps (fun g hg e=>(hpne g hg).1 e.symm)).trans Hbx.out;have gDb:=World.ownsRow.lt Hdr.out gD rfl;have kD4:=K4 gD gDb.2 (fun g hg e=>(hpne g hg).2 e.symm);have hr4:w4.rangeAt xb xo cs:=by
  intro j v hj;have hx:=HR0.out j v hj;have hxz:=zF hx;rw[World.cell?_of_block (w:=w2) (a:=⟨xb,xo+j,none⟩) (K4 xb hxz (fun g hg e=>by have:=hrowb g hg;omega))];exact hx
 have s4:=hgrow.size;obtain⟨e0,e1,ef0,ef1⟩:=zn hbx4;have HC4:Hid (Chg base w2.heap.size w2 w4):=by
  refine⟨hgrow.os.trans C3.os,hgrow.tape.trans C3.tape,hgrow.output.trans C3.output,by omega,fun k hk hh=>K4 k hk (fun g hg e=>?_)⟩;have:=hrowb g hg;omega
 have HN:Hid (w4.ownsRow base 86 65 (.slice vo vl vc) (d.pend.length+1) (flat d.pend++full)):=hown4;refine⟨fun _=>⟨e1,hr4⟩,?_⟩;go_simp;have HS4:Hid ((fun w':World=>w'.cell? ⟨p,1,none⟩=some (.slice po d.pend.length pc)∧w'.rangeAt xb xo cs) w4):=⟨e1,hr4⟩;refine zq 12 rfl rfl (by kernel_rfl) ?_;go_simp;refine zq 13 rfl rfl (by kernel_rfl) ?_;go_simp;refine zq 14 rfl rfl (by kernel_rfl) ?_;have HB:Hid ((w4.setCell ⟨p,1,none⟩ (.slice vo vl vc)).heap[p]?=some (.cells #[.slice (some (zd gD)) (d.dur.length/64) (d.dur.length/64),.slice vo vl vc] 83 (0,0))):=by
  have:=heap_setCell_same w4 p 1 _ _ (.slice vo vl vc) hbx4;show _=_;simpa using this
 have HKD:Hid ((w4.setCell ⟨p,1,none⟩ (.slice vo vl vc)).heap[gD]?=w2.heap[gD]?):=by
  refine(Below.heap_setCell _ _ _ _ ?_).trans kD4;intro e;rcases Hdr.out.2 with⟨e',_⟩|⟨g,cap,cur,e',_,hh,_⟩
  ·cases e'
  ·simp only[Value.slice.injEq,Option.some.injEq,Addr.mk.injEq,and_true] at e';obtain⟨rfl,_⟩:=e';have e2:gD=p:=e;rw[e2,Hbx.out] at hh;simp only[Option.some.injEq,Obj.cells.injEq] at hh;exact absurd hh.2.1 (by decide)
 have HPn:Hid ((w4.setCell ⟨p,1,none⟩ (.slice vo vl vc)).ownsRow base 86 65 (.slice vo vl vc) (d.pend.length+1) (flat d.pend++full)):=by
  refine ownsRow_setCell_other HN.out ?_ _;intro e;rcases HN.out.2 with⟨e',_⟩|⟨g,cap,cur,e',_,hh,_⟩
  ·rw[e'] at e;cases e
  ·rw[e'] at e;have e2:g=p:=by simpa [Value.ownBlock] using e
   rw[e2,hbx4] at hh;simp only[Option.some.injEq,Obj.cells.injEq] at hh;exact absurd hh.2.1 (by decide)
 have HD:Hid (Dev (w4.setCell ⟨p,1,none⟩ (.slice vo vl vc)) base p ⟨d.dur,d.pend++ [((a:Int),ys)]⟩):=by
  refine⟨gD,.slice vo vl vc,HVs.out,hp,HB.out,?_,?_⟩
  ·refine⟨Hdr.out.1,?_⟩;rcases Hdr.out.2 with h2|⟨g,cap,cur,hv',hg',hh,r⟩
   ·exact Or.inl h2
   ·refine Or.inr ⟨g,cap,cur,hv',hg',?_,r⟩;simp only[Value.slice.injEq,Option.some.injEq,Addr.mk.injEq,and_true] at hv';rw[←hv'.1] at hh⊢;exact HKD.out.trans hh
  ·have:=HPn.out;show(w4.setCell _ _).ownsRow _ _ _ _ (d.pend++ [((a:Int),ys)]).length (flat (d.pend++ [((a:Int),ys)]));rw[aaI,HW.out,List.length_append];exact this
 have HCf:Hid (Chg base w2.heap.size w2 (w4.setCell ⟨p,1,none⟩ (.slice vo vl vc))):=HC4.out.setCell (Or.inl ⟨hp,hps⟩) _;clear K4 hr4 hown4 hgrow C3 B3 hown3 hc3 hr3 hnews hpne hrowb kD4 HN HPn HKD HB HC4 hbx4;go_simp;refine qi (by kernel_rfl) (NoPanic.normal ?_);go_wp2;go_ret;exact⟨rfl,HD.out,HCf.out⟩
theorem Zj.snoc {w w':World}{base:Nat}{eW eB:TypeId}{v v':Value}{ps:List Wr}{cells:List Value}{dvs:Nat→Value}(h:Zj w base eW eB v ps cells dvs)(q:Int)(dv:Value)(ys:List Int)
  (hrow:w'.ownsRow base eW 2 v' (ps.length+1) (cells++ [za q,dv])) (hdat: ∀i,i<ps.length→zi w' base eB (dvs i) (ps.getD i (0,[])).2) (ho:zi w' base eB dv ys)
  (hfr: ∀i g,i<ps.length→(dvs i).ownBlock=some g→dv.ownBlock≠some g):
  Zj w' base eW eB v' (ps++ [(q,ys)]) (cells++ [za q,dv]) (fun i=>if i=ps.length then dv else dvs i):=by
 have hl:=h.row.1;refine⟨by simpa using hrow,?_,?_,?_,?_⟩
 ·intro i hi;simp only[List.length_append,List.length_cons,List.length_nil] at hi;by_cases e:i<ps.length
  ·rw[List.getElem?_append_left (by omega),h.at0 i e,List.getD_eq_getElem?_getD,List.getD_eq_getElem?_getD,List.getElem?_append_left e]
  ·obtain rfl:i=ps.length:=by omega
   rw[List.getElem?_append_right (by omega),hl];simp[List.getD_eq_getElem?_getD]
 ·intro i hi;simp only[List.length_append,List.length_cons,List.length_nil] at hi;by_cases e:i<ps.length
  ·rw[List.getElem?_append_left (by omega),h.at1 i e,if_neg (by omega)]
  ·obtain rfl:i=ps.length:=by omega
   rw[List.getElem?_append_right (by omega),hl,if_pos rfl,show ps.length*2+1-ps.length*2=1 by omega];rfl
 ·intro i hi;simp only[List.length_append,List.length_cons,List.length_nil] at hi;by_cases e:i<ps.length
  ·show zi w' base eB (if i=ps.length then dv else dvs i) _;rw[if_neg (by omega),List.getD_eq_getElem?_getD,List.getElem?_append_left e,←List.getD_eq_getElem?_getD];exact hdat i e
  ·obtain rfl:i=ps.length:=by omega
   show zi w' base eB (if ps.length=ps.length then dv else dvs ps.length) _;rw[if_pos rfl];simpa [List.getD_eq_getElem?_getD] using ho
 ·intro i j g hij hj;simp only[List.length_append,List.length_cons,List.length_nil] at hj;rw[if_neg (by omega)];by_cases e:j<ps.length
  ·rw[if_neg (by omega)];exact h.apart i j g hij e
  ·rw[if_pos (by omega)];exact hfr i g (by omega)
theorem Qo (n:Nat)(A:Array Value)(hr:A.size=n)(full:List Value)(h:full.length=n):
  Instr.fill (fun i=>some (i*n,n)) A [(0,.agg full.toArray)]=some full.toArray:=by
 have hf:=ZK 0 full 0 A (by omega);have e:splice A.toList (0+0) full=full:=by
  unfold splice;have hal:A.toList.length=n:=hr;simp only[Nat.zero_add,List.take_zero,List.nil_append];rw[List.drop_of_length_le (by omega),List.append_nil]
 rw[e] at hf;have hf2:List.foldl (fun(B:Array Value) (p:Value×Nat)=>B.setIfInBounds (0+p.2) p.1) A (full.zipIdx 0)=full.toArray:=Array.ext' (by simpa using hf);simp only[Nat.zero_add] at hf2;simp[Instr.fill,Value.cells,hr,h,hf2]
theorem Tryz.infoW':(Tryz.prog.info? 84).map (fun i=>(i.zero,i.size,i.bytes))=some (some (.agg #[za 0,zc]),2,32):=by kernel_rfl
def NV (w:World) (lo B:Nat) (dur:List Int) (g:Nat) (ps:List Wr):Prop:=
 ∃pv cells dvs,w.heap[B]?=some (.cells #[.slice (some (zd g)) dur.length dur.length,pv] 26 (0,0))∧zi w lo 5 (.slice (some (zd g)) dur.length dur.length) dur∧
  Zj w lo 84 5 pv ps cells dvs∧ ∀i,i<ps.length→(dvs i).ownBlock≠some g
theorem E5 (w:World){base p:Nat}{d:Dsk}(h:Dev w base p d):
  Calls Tryz.prog 19 #[.pointer (some (zd p))] w fun e w'=> ∃v,e= .returned v∧qK w' w.heap.size w'.heap.size 84 5 v d∧Chg 0 0 w w':=by
 obtain⟨gD,po,cap,hv,hp,hgD,hbox,hdur,hpend⟩:=h.pend_ne;have hpz:=(gLt hbox);have hgz:=(gLt hdur);have h64:=hv.1;have hn1:=hv.2.1;have hn:=hv.2.2.1;have hm:=hv.2.2.2.1;have C0:Chg 0 0 w (w.alloc (.cells #[zc,zc] 26)):=Chg.alloc (Chg.refl 0 0 w) _;have B0:=zh w (.cells #[zc,zc] 26);have s0:(w.alloc (.cells #[zc,zc] 26)).heap.size=w.heap.size+1:=by simp
 have hdur0:=(C0.block gD hgz (by omega)).trans hdur;have hbox0:=(C0.block p hpz (by omega)).trans hbox;obtain⟨b0,b1,_,_⟩:=zn hbox0;obtain⟨v0,v1,_,_⟩:=zn hbox;have HP:Hid _:=hpend;have HV:Hid (qV d):=hv;clear hdur hbox h hv hpend;go_enter Tryz.func19,Tryz.ntmps19;go_wp2_with fail;generalize w.alloc (.cells #[zc,zc] 26)=wa at*;refine(Xj _ gD _ d.dur hdur0 (by omega) hn1 hn).mono ?_;rintro e wb ⟨g,rfl,ho,hb⟩
 rw[show d.dur.length/64*64=d.dur.length from by omega] at*;have sb:=hb.size;have gb:=ho.lt g rfl;have B0:=(hb.block w.heap.size (by omega) (by omega)).trans B0;have hbox1:=(hb.block p (by omega) (by omega)).trans hbox0;have hB:=C0.trans hb;clear hb C0 hdur0 hbox0 b0 b1;have C1:Chg 0 0 wb (wb.alloc (.cells #[.slice (some (zd g)) d.dur.length d.dur.length,zc] 26)):=Chg.alloc (Chg.refl 0 0 wb) _;have B2:=zh wb (.cells #[.slice (some (zd g)) d.dur.length d.dur.length,zc] 26)
 have B0:=(C1.block w.heap.size (by omega) (by omega)).trans B0;have hbox2:=(C1.block p (by omega) (by omega)).trans hbox1;have s2:(wb.alloc (.cells #[.slice (some (zd g)) d.dur.length d.dur.length,zc] 26)).heap.size=wb.heap.size+1:=by simp
 obtain⟨b0,b1,_,_⟩:=zn hbox2;obtain⟨y0,y1,yf0,yf1⟩:=zn B0;obtain⟨u0,u1,_,_⟩:=zn B2;have ho2:=(ho.chg C1 (by intro g' _;omega)).base (base':=w.heap.size) (fun g' hg'=>by cases hg';show w.heap.size≤g;omega);have hC:=hB.trans C1;clear hB C1 ho hbox1 hbox2;go_wp2;generalize wb.alloc (.cells #[.slice (some (zd g)) d.dur.length d.dur.length,zc] 26)=wd at*;have hgs:g<wd.heap.size:=by omega
 have T0:NV wd (w.heap.size+1) wb.heap.size d.dur g []:=
  ⟨zc,[],fun _=>zc,B2,ho2.base (fun g' hg'=>by cases hg';show w.heap.size+1≤g;omega),Zj.nil _ _ _ _,by simp⟩
 have HT0:Hid (NV wd (w.heap.size+1) wb.heap.size d.dur g []):=T0;have HC:Hid (Chg 0 0 w wd):=hC;have HR:Hid (wd.heap[w.heap.size]?=some (.cells #[zc,zc] 26 (0,0))):=B0;clear T0 ho2 hC B0 B2 y0 y1 yf0 yf1 u0 u1 b0 b1;go_loopw [17] (fun i wr=> ∃k:Nat,k≤d.pend.length∧i=za k∧Chg 0 0 w wr∧wd.heap.size≤wr.heap.size∧wr.heap[w.heap.size]?=some (.cells #[zc,zc] 26 (0,0))∧NV wr (w.heap.size+1) wb.heap.size d.dur g (d.pend.take k)) (fun i _=>d.pend.length-(intOf i).toNat)
 case atStart=>exact⟨0,Nat.zero_le _,rfl,HC.out,Nat.le_refl _,HR.out,by simpa using HT0.out⟩
 case round=>
  obtain⟨k,hk,rfl,hcw,hsz,hR,pv,cells,dvs,hB,hD,hP,hA⟩:=hrel;by_cases hlt:k<d.pend.length
  ·obtain⟨gP,rfl,hne,hgPz,hrg⟩:=HP.out k hlt;obtain⟨hq0,hq1,hx64⟩:=HV.out.2.2.2.2 k hlt;have htk:d.pend.take (k+1)=d.pend.take k++ [d.pend.getD k (0,[])]:=by
    rw[List.take_add_one,List.getD_eq_getElem?_getD,List.getElem?_eq_getElem hlt];rfl
   have hlk:(d.pend.take k).length=k:=by rw[List.length_take];omega
   obtain⟨po',pl,pc,rfl⟩:=zx hP.row;generalize d.pend.getD k (0,[])=pr at*;obtain⟨q,xs⟩:=pr;simp only at hq0 hq1 hx64;obtain⟨cs,hcs⟩: ∃cs,cs=xs.map (Value.int .u8):=⟨_,rfl⟩;obtain⟨full,hfull⟩: ∃full,full=jE (q,xs):=⟨_,rfl⟩;rw[←hfull] at hrg;have hf2:full=Value.int .i64 q::cs:=by rw[hfull,hcs];rfl
   have L1:cs.length=64:=by rw[hcs];simpa using hx64
   have L2: ∀v∈cs,v.oneCell'=true:=by rw[hcs];exact ints_oneCell _ _
   have L3:full.length=65:=by rw[hf2,List.length_cons,L1]
   have L4: ∀v∈full,v.oneCell'=true:=by
    intro v hv;rw[hf2] at hv;rcases List.mem_cons.1 hv with rfl|hv
    ·rfl
    ·exact L2 v hv
   have R0:wr.rangeAt gP (k*65) full:=fun j v hj=>hcw.cell (hrg j v hj) (by omega);have HR0:Hid _:=R0;have Hf2:Hid _:=hf2;have HL3:Hid _:=L3;have HL4:Hid _:=L4;have Hsz:Hid (full.toArray.size=65):=by show _=_;simpa using L3
   have Hcs:Hid _:=hcs;have u87:=Tryz.underlying86;have i87:Hid ((Tryz.prog.info? 86).map (·.size)=some full.toArray.size):=by show _=_;rw[Hsz.out];kernel_rfl
   have i87l:Hid ((Tryz.prog.info? 86).map (·.size)=some full.length):=by show _=_;rw[L3];kernel_rfl
   have HB:Hid _:=hB;have HD:Hid (zi wr (w.heap.size+1) 5 (.slice (some (zd g)) d.dur.length d.dur.length) d.dur):=hD;have HPx:Hid _:=hP;have HA:Hid _:=hA;have HRr:Hid _:=hR;have HCw:Hid _:=hcw;clear hrg hcs hfull hf2 L2 L3 L4 R0 hB hD hP hA hR hcw;have hik:(k:Int)<(d.pend.length:Int):=by omega
   go_wp2_with (first
    |(refine wpList_load_mid rfl 86 (.tmp 19) rfl gP (k*65) rfl full _ HR0.out u87 rfl i87l.out ?_)
    |(refine wpList_store_mid rfl 86 (.tmp 5) (.tmp 20) rfl wr.heap.size 0 full.toArray rfl rfl (by rw[Hsz.out];exact Jo wr _ _ 65 rfl) i87.out (all_oneCell_toArray HL4.out) ?_)
    |go_in)
   obtain⟨F1,F2⟩:=filled (w:=wr) (c:=Tryz.zeroCells86) (t:=86) (full:=full) (by rw[HL3.out];rfl);generalize (wr.alloc (.cells Tryz.zeroCells86 86)).setCells wr.heap.size 0 full=W7 at*;have hwb:wb.heap.size<wr.heap.size:=by omega
   have z1:=F2.cell (zn HB.out).2.1 (by omega);have m0:W7.cell? (zd wr.heap.size)=some (za q):=by
    rw[cell_of_row W7 wr.heap.size 0 _ _ _ F1,Hf2.out];simp
   have R7:W7.rangeAt wr.heap.size 1 cs:=by
    intro j v hj;rw[cell_of_row W7 wr.heap.size (1+j) _ _ _ F1,Hf2.out,Nat.add_comm];simpa using hj
   have HF2:Hid _:=F2;have s7:=F2.size;have s7b:=(gLt F1);have HS:Hid (_∧_∧_):=⟨z1,m0,R7⟩;clear F1 F2 z1 m0 R7 HR0 u87 i87 i87l;refine zW 11 (fun w':World=>w'.cell? ⟨wb.heap.size,1,none⟩=some (.slice po' pl pc)∧w'.cell? (zd wr.heap.size)=some (za q)∧w'.rangeAt wr.heap.size 1 cs) (by kernel_rfl) ?_;refine wTk 0 (.pointer (some ⟨wb.heap.size,1,none⟩)) rfl (fun w' hw'=>by go_simp) HS.out ?_;go_simp;refine wTk 1 (.slice po' pl pc) rfl (fun w' hw'=>by have h4:=hw'.1;go_simp) HS.out ?_
   go_simp;refine wTk 2 (.pointer (some (zd wr.heap.size))) rfl (fun w' hw'=>by go_simp) HS.out ?_;go_simp;refine wTk 3 (za q) rfl (fun w' hw'=>by have h4:=hw'.2.1;go_simp) HS.out ?_;go_simp;refine wTk 4 (.pointer (some ⟨wr.heap.size,1,none⟩)) rfl (fun w' hw'=>by go_simp) HS.out ?_;go_simp;refine ZT 5 (.agg cs.toArray) rfl (by kernel_rfl) (by kernel_rfl) (by kernel_rfl) (by kernel_rfl) (fun _ _ _ h=>h) (yieldsIf_load_mid (by kernel_rfl) 72 (.tmp 25) rfl wr.heap.size 1 rfl cs _ (fun w' hw'=>hw'.2.2) Tryz.underlying72 rfl (by rw[L1];kernel_rfl)) HS.out ?_
   go_simp;refine zq 6 rfl rfl (by kernel_rfl) ?_;have hb5:=jM W7.drew xs hx64;rw[←Hcs.out] at hb5;refine zl 29 #[.agg cs.toArray] (by first|kernel_rfl|go_simp) hb5 ?_;rintro e w5 ⟨g5,rfl,ho5,hc5⟩;refine⟨_,rfl,?_⟩;clear hb5;have hds:W7.drew.heap.size=W7.heap.size:=rfl;have HS5:Hid (_∧_∧_):=⟨hc5.cell HS.out.1 (by omega),hc5.cell HS.out.2.1 (by omega),fun j v hj=>hc5.cell (HS.out.2.2 j v hj) (by omega)⟩
   have HC5:Hid _:=(Chg.drew HF2.out).trans hc5;have s5:=hc5.size;have g5b:=ho5.lt g5 rfl;rw[hds] at s5 g5b;have HO5:Hid (zi w5 (w.heap.size+1) 5 (.slice (some (zd g5)) 64 64) xs):=ho5.base (fun g' hg'=>by cases hg';show w.heap.size+1≤g5;omega);clear HS ho5 hc5;refine⟨fun _=>HS5.out,?_⟩;go_simp;refine wTk 7 (.agg #[za q,.slice (some (zd g5)) 64 64]) rfl (fun w' hw'=>by go_simp) HS5.out ?_;go_simp;obtain⟨ic,hic,hcz0,hcz1,hcz2⟩:=info_parts Tryz.infoW'
   refine zq 8 rfl rfl (by kernel_rfl) ?_;refine wp_buildSlice 24 84 1 #[(0,.tmp 28)] rfl #[za q,.slice (some (zd g5)) 64 64] ic _ Tryz.underlying24 hic hcz0 (by rw[hcz1];decide) (by rw[hcz1];decide) (by rw[hcz1,Array.toList_map];refine Qo 2 _ ?_ [za q,.slice (some (zd g5)) 64 64] rfl;simp) ?_;have C6:Chg 0 0 wr (w5.alloc (.cells #[za q,.slice (some (zd g5)) 64 64] 84)):=HC5.out.alloc _;have C6':Chg 0 0 w5 (w5.alloc (.cells #[za q,.slice (some (zd g5)) 64 64] 84)):=Chg.alloc (Chg.refl 0 0 w5) _
   have B6:=zh w5 (.cells #[za q,.slice (some (zd g5)) 64 64] 84);have s6:(w5.alloc (.cells #[za q,.slice (some (zd g5)) 64 64] 84)).heap.size=w5.heap.size+1:=by simp
   generalize w5.alloc (.cells #[za q,.slice (some (zd g5)) 64 64] 84)=w6 at*;have HO6:=HO5.out.chg C6' (by intro g' _;omega);have S6:(fun w':World=>w'.cell? ⟨wb.heap.size,1,none⟩=some (.slice po' pl pc)∧w'.cell? (zd wr.heap.size)=some (za q)∧w'.rangeAt wr.heap.size 1 cs) w6:=⟨C6'.cell HS5.out.1 (by omega),C6'.cell HS5.out.2.1 (by omega),fun j v hj=>C6'.cell (HS5.out.2.2 j v hj) (by omega)⟩;refine⟨fun _=>S6,?_⟩
   go_simp;have P6:=HPx.out.chg C6 (by intro g' _;omega) (by intro i g' _ _;omega);have D6:=HD.out.chg C6 (by intro g' _;omega);have Bx6:=(C6.block wb.heap.size (by omega) (by omega)).trans HB.out;have R6:=(C6.block w.heap.size (by omega) (by omega)).trans HRr.out;have hnews: ∀j u,[Value.int .i64 q,.slice (some (zd g5)) 64 64][j]?=some u→w6.cell? (((zd w5.heap.size):Addr).add j)=some u:=by
    intro j u hj;rw[Addr.add_mid,Nat.zero_add,cell_of_row w6 w5.heap.size j _ _ _ B6];simpa using hj
   refine zq 9 rfl rfl (by kernel_rfl) ?_;refine wp_append_own w6 (.tmp 22) (.tmp 29) 24 rfl (w.heap.size+1) 84 ic _ 2 32 Tryz.underlying24 hic hcz0 hcz1 hcz2 rfl (by decide) _ _ cells rfl P6.row (zd w5.heap.size) 1 1 [za q,.slice (some (zd g5)) 64 64] rfl rfl hnews (by simp[Value.oneCell']) (by rw[hlk];unfold maxLen;omega) (by rw[hlk];omega) (by omega) ?_;intro v' w8 hown8 hgrow _;obtain⟨vo,vl,vc,rfl⟩:=zx hown8
   have s8:=hgrow.size;have K8: ∀j,j<w6.heap.size→(Value.slice po' pl pc).ownBlock≠some j→w8.heap[j]?=w6.heap[j]?:=fun j hj hne'=>hgrow.block j hj (fun e=>hne' e.symm);have hpB: ∀j,(Value.slice po' pl pc).ownBlock=some j→w.heap.size+1≤j∧j<wr.heap.size:=fun j hj=>World.ownsRow.lt HPx.out.row j hj;have hpE: ∀j,(Value.slice po' pl pc).ownBlock=some j→ ∃cur,w6.heap[j]?=some (.cells cur 84 (0,0)):=fun j hj=>zw P6.row hj
   have Bx8:w8.heap[wb.heap.size]?=_:=(K8 wb.heap.size (by omega) (fun e=>by obtain⟨cur,hcur⟩:=hpE _ e;exact zR hcur Bx6 (by decide) rfl)).trans Bx6;have R8:w8.heap[w.heap.size]?=_:=(K8 w.heap.size (by omega) (fun e=>by have:=hpB _ e;omega)).trans R6;have D8:zi w8 (w.heap.size+1) 5 _ d.dur:=D6.same (fun j hj=>K8 j (D6.lt j hj).2 (fun e=>by obtain⟨cur,hcur⟩:=hpE _ e;obtain⟨cur',hcur'⟩:=D6.elem hj;exact zR hcur hcur' (by decide) rfl))
   have O8:zi w8 (w.heap.size+1) 5 _ xs:=HO6.same (fun j hj=>K8 j (HO6.lt j hj).2 (fun e=>by obtain⟨cur,hcur⟩:=hpE _ e;obtain⟨cur',hcur'⟩:=HO6.elem hj;exact zR hcur hcur' (by decide) rfl));have X8: ∀i,i<(d.pend.take k).length→zi w8 (w.heap.size+1) 5 (dvs i) ((d.pend.take k).getD i (0,[])).2:=fun i hi=>(P6.data i hi).same (fun j hj=>K8 j ((P6.data i hi).lt j hj).2 (fun e=>by obtain⟨cur,hcur⟩:=hpE _ e;obtain⟨cur',hcur'⟩:=(P6.data i hi).elem hj;exact zR hcur hcur' (by decide) rfl))
   have C6w:=HCw.out.trans C6;have C8:Chg 0 0 w w8:=by
    refine⟨hgrow.os.trans C6w.os,hgrow.tape.trans C6w.tape,hgrow.output.trans C6w.output,by omega,fun j hj hh=>(K8 j (by omega) (fun e=>?_)).trans (C6w.block j hj (by omega))⟩;have:=hpB j e;omega
   have S8:(fun w':World=>w'.cell? ⟨wb.heap.size,1,none⟩=some (.slice po' pl pc)∧w'.cell? (zd wr.heap.size)=some (za q)∧w'.rangeAt wr.heap.size 1 cs) w8:=⟨(zn Bx8).2.1,?_,?_⟩;rotate_left 1
   ·have:=S6.2.1;rw[World.cell?_of_block (w:=w6) (a:=(zd wr.heap.size)) (K8 wr.heap.size (by omega) (fun e=>by have:=hpB _ e;omega))];exact this
   ·intro j v hj;rw[World.cell?_of_block (w:=w6) (a:=⟨wr.heap.size,1+j,none⟩) (K8 wr.heap.size (by omega) (fun e=>by have:=hpB _ e;omega))];exact S6.2.2 j v hj
   refine⟨fun _=>S8,?_⟩;have e1:=S8.1;have ef1:=(zn Bx8).2.2.2;have HS8:Hid _:=S8;have nB: ∀ {v xs},zi w8 (w.heap.size+1) 5 v xs→v.ownBlock≠some wb.heap.size:=fun ho e=>by obtain⟨cur,hcur⟩:=ho.elem e;exact zR hcur Bx8 (by decide) rfl
   have HC9:Hid (Chg 0 0 w (w8.setCell ⟨wb.heap.size,1,none⟩ (.slice vo vl vc))):=C8.step (Chg.setCell (lo:=wb.heap.size) (hi:=wb.heap.size+1) (Chg.refl _ _ _) (Or.inl ⟨Nat.le_refl _,Nat.lt_succ_self _⟩) _) (by omega);have HR9:Hid ((w8.setCell ⟨wb.heap.size,1,none⟩ (.slice vo vl vc)).heap[w.heap.size]?=some (.cells #[zc,zc] 26 (0,0))):=(Below.heap_setCell _ _ _ _ (by show w.heap.size≠wb.heap.size;omega)).trans R8
   have HT9:Hid (NV (w8.setCell ⟨wb.heap.size,1,none⟩ (.slice vo vl vc)) (w.heap.size+1) wb.heap.size d.dur g (d.pend.take (k+1))):=by
    refine⟨.slice vo vl vc,cells++ [za q,.slice (some (zd g5)) 64 64],fun i=>if i=(d.pend.take k).length then .slice (some (zd g5)) 64 64 else dvs i,?_,D8.set (nB D8) _,?_,?_⟩
    ·have:=heap_setCell_same w8 wb.heap.size 1 _ _ (.slice vo vl vc) Bx8;simpa using this
    ·rw[htk];refine P6.snoc q _ xs (ownsRow_setCell_other hown8 (fun e=>?_) _) (fun i hi=>(X8 i hi).set (nB (X8 i hi)) _) (O8.set (nB O8) _) (fun i g' hi hg' e=>?_)
     ·obtain⟨cur,hcur⟩:=zw hown8 e;exact zR hcur Bx8 (by decide) rfl
     ·have:=((HPx.out.data i hi).lt g' hg').2;have e2:g5=g':=by simpa [Value.ownBlock] using e
      omega
    ·intro i hi;rw[htk,List.length_append,List.length_cons,List.length_nil] at hi;by_cases e:i=(d.pend.take k).length
     ·simp only[if_pos e];have:=(HD.out.lt g rfl).2;simp[Value.ownBlock];omega
     ·simp only[if_neg e];exact HA.out i (by omega)
   have HS9:Hid (wd.heap.size≤(w8.setCell ⟨wb.heap.size,1,none⟩ (.slice vo vl vc)).heap.size):=by show _≤_;simp[World.setCell];omega
   clear S8 S6 X8 O8 D8 R8 hpE hpB K8 hgrow hown8 hnews P6 D6 Bx6 R6 HO6 C6 C6' C6w C8 B6 nB Bx8 HO5 HC5 HS5 htk;go_simp;refine zq 10 rfl rfl (by kernel_rfl) ?_;go_simp;refine⟨HS8.out.2,?_⟩;refine zq 11 rfl rfl (by kernel_rfl) ?_;go_simp;refine qi (by kernel_rfl) (NoPanic.normal ?_);go_wp2;go_roundw
   case rel=>exact⟨k+1,by omega,by go_num,HC9.out,HS9.out,HR9.out,HT9.out⟩
   case measure=>simp[intOf];omega
  ·obtain rfl:k=d.pend.length:=by omega
   rw[List.take_length] at hP hA;obtain⟨po',pl,pc,rfl⟩:=zx hP.row;obtain⟨z0,z1,zf0,zf1⟩:=zn hR;obtain⟨t0,t1,tf0,tf1⟩:=zn hB;have hgl:=(hD.lt g rfl);have nR: ∀ {v xs},zi wr (w.heap.size+1) 5 v xs→v.ownBlock≠some w.heap.size:=fun ho e=>by have:=(ho.lt _ e).1;omega
   have HO:Hid (qK ((wr.setCell (zd w.heap.size) (.slice (some (zd g)) d.dur.length d.dur.length)).setCell ⟨w.heap.size,1,none⟩ (.slice po' pl pc)) w.heap.size wr.heap.size 84 5 (.agg #[.slice (some (zd g)) d.dur.length d.dur.length,.slice po' pl pc]) d):=by
    have c2:Chg w.heap.size (w.heap.size+1) wr ((wr.setCell (zd w.heap.size) (.slice (some (zd g)) d.dur.length d.dur.length)).setCell ⟨w.heap.size,1,none⟩ (.slice po' pl pc)):=Chg.set2 _ _ _ _;have P9:=hP.chg c2 (fun j hj=>Or.inr (World.ownsRow.lt hP.row j hj).1) (fun i j hi hj=>Or.inr ((hP.data i hi).lt j hj).1);have P9':Zj ((wr.setCell (zd w.heap.size) (.slice (some (zd g)) d.dur.length d.dur.length)).setCell ⟨w.heap.size,1,none⟩ (.slice po' pl pc)) w.heap.size 84 5 (.slice po' pl pc) d.pend cells dvs:=by
     refine⟨?_,P9.at0,P9.at1,fun i hi=>(P9.data i hi).base (fun j hj=>by have:=((P9.data i hi).lt j hj).1;omega),P9.apart⟩;obtain⟨h1,h2⟩:=P9.row;refine⟨h1,?_⟩;rcases h2 with h2|⟨j,cap,cur,hv,hg,hh,r⟩
     ·exact Or.inl h2
     ·exact Or.inr ⟨j,cap,cur,hv,by omega,hh,r⟩
    refine⟨_,_,cells,dvs,rfl,(hD.chg c2 (fun j hj=>Or.inr (hD.lt j hj).1)).base (fun j hj=>by have:=(hD.lt j hj).1;omega),P9',fun i j hi hj e=>hA i hi (by cases hj;exact e),fun j hj=>(hD.lt j hj).2,fun j hj=>(World.ownsRow.lt hP.row j hj).2,fun i j hi hj=>((hP.data i hi).lt j hj).2⟩
   have HCf:Hid (Chg 0 0 w ((wr.setCell (zd w.heap.size) (.slice (some (zd g)) d.dur.length d.dur.length)).setCell ⟨w.heap.size,1,none⟩ (.slice po' pl pc))):=hcw.step (Chg.set2 _ _ _ _) (by omega);have HSf:Hid (((wr.setCell (zd w.heap.size) (.slice (some (zd g)) d.dur.length d.dur.length)).setCell ⟨w.heap.size,1,none⟩ (.slice po' pl pc)).heap.size=wr.heap.size):=by show _=_;simp[World.setCell]
   have hne0:wb.heap.size≠w.heap.size:=by omega
   clear hP hD hA hB hR hcw nR HP;go_wp2;refine bodyPost_ret (v:= .agg #[.slice (some (zd g)) d.dur.length d.dur.length,.slice po' pl pc]) (by simp[results,Tryz.results19,go_sem,z0,z1]) rfl ⟨_,rfl,?_,HCf.out⟩;rw[HSf.out];exact HO.out
end Go.Proofs.YtacjklochmelfaaGreatDoor
