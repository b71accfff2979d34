import Derived.Test.YtacjklochmelfaaGreatDoorTxnBase
import Derived.Test.YtacjklochmelfaaGreatDoorPutByt
import Derived.Test.YtacjklochmelfaaGreatDoorJReadC
import Derived.Test.YtacjklochmelfaaGreatDoorCopyRow
import Derived.Test.YtacjklochmelfaaGreatDoorRows
import Derived.Test.YtacjklochmelfaaGreatDoorCells2
import Derived.Test.YtacjklochmelfaaGreatDoorHeld
import Derived.Great.BuildSlice
import Derived.Laws.AppendOwnNone
namespace Go.Proofs.YtacjklochmelfaaGreatDoor
open Go.RowKit
set_option maxRecDepth 100000
set_option maxHeartbeats 16000000
theorem Vp (ps:List Wr)(k:Nat)(h:k<ps.length):(ps.take (k+1)).map (·.1)=(ps.take k).map (·.1)++ [(ps.getD k (0,[])).1]:=by
 rw[List.take_succ_eq_append_getElem h,List.map_append];simp[List.getD_eq_getElem?_getD,h]
theorem Xm (w:World)(ps:List Wr)(lo hi b off cap:Nat)(hl:ps.length≤1048576)
  (h1: ∀i,i<ps.length→ ∃dv,w.cell? ⟨b,off+i*2,none⟩=some (za (ps.getD i (0,[])).1)∧w.cell? ⟨b,off+i*2+1,none⟩=some dv∧zr w lo hi .u8 dv (ps.getD i (0,[])).2):
  Calls Tryz.prog 81 #[.slice (some ⟨b,off,none⟩) ps.length cap] w fun e w'=> ∃v,e= .returned v∧zP w' w.heap.size 2 v (ps.map (·.1))∧Chg 0 0 w w':=by
 obtain⟨ti,hti,hz0,hz1,hz2⟩:=info_parts Tryz.infoI;have C0:Chg 0 0 w (w.alloc (.cells #[] 2)):=Chg.alloc (Chg.refl 0 0 w) _;have HO0:Hid (zP (w.alloc (.cells #[] 2)) w.heap.size 2 (.slice (some (zd w.heap.size)) 0 0) []):=by
  show zP _ _ _ _ _;have:=World.ownsRow_lit (base:=w.heap.size) (e:=2) (size:=1) w #[] 0 (Nat.le_refl _) (by unfold maxLen;omega) rfl;simpa [zP] using this
 go_enter Tryz.func81,Tryz.ntmps81;go_wp2;go_loopw [3,4] (fun o i wr=> ∃k:Nat,k≤ps.length∧i=za k∧(∃g cp,o= .slice (some (zd g)) k cp)∧zP wr w.heap.size 2 o ((ps.take k).map (·.1))∧Chg 0 0 w wr) (fun _ i _=>ps.length-(intOf i).toNat)
 case atStart=>exact⟨0,Nat.zero_le _,rfl,⟨_,_,rfl⟩,HO0.out,C0⟩
 case round=>
  obtain⟨k,hk,rfl,⟨og,oc,rfl⟩,ho,hch⟩:=hrel;have HO:Hid (zP wr w.heap.size 2 (.slice (some (zd og)) k oc) ((ps.take k).map (·.1))):=ho;have HCH:Hid _:=hch;by_cases hlt:k<ps.length
  ·obtain⟨d1,c1,_,_⟩:=h1 k hlt;have c1:=hch.cell c1 (by omega);have hi:(k:Int)<(ps.length:Int):=by omega
   have HM:Hid _:=Vp ps k hlt;have HLk:Hid (((ps.take k).map (·.1)).length=k):=by show _=_;rw[List.length_map,List.length_take];omega
   generalize (ps.getD k (0,[])).1=y at*;generalize (ps.take k).map (·.1)=ks at*;have sz0:=HCH.out.size;have hgl:=ho.lt og rfl;have HO4:Hid ((wr.alloc (.cells #[za y] 2)).ownsRow w.heap.size 2 1 (.slice (some (zd og)) k oc) k (ks.map (Value.int .i64))):=by
    have:=HO.out.chg (Chg.alloc (Chg.refl 0 0 wr) (.cells #[za y] 2)) (by intro g _;omega);unfold zP at this;rw[HLk.out] at this;exact this
   have Hgb:Hid (∀g,(Value.slice (some (zd og)) k oc).ownBlock=some g→w.heap.size≤g):=fun g hg=>(HO.out.lt g hg).1;have HNW:Hid (∀j u,[Value.int .i64 y][j]?=some u→(wr.alloc (.cells #[za y] 2)).cell? (((zd wr.heap.size):Addr).add j)=some u):=by
    intro j u hj;have hj0:j=0:=by have:=(List.getElem?_eq_some_iff.1 hj).1;simp at this;exact this
    subst hj0;simp at hj;subst hj;simp[Addr.add]
   have bs:Hid (w.heap.size≤(wr.alloc (.cells #[za y] 2)).heap.size):=by show _≤_;simp;omega
   clear ho hch h1;go_wp2_with (at_builtin;refine wpList_append_own _ rfl (.tmp 12) (.tmp 18) 33 rfl w.heap.size 2 ti (za 0) 1 8 Tryz.underlying33 hti hz0 hz1 hz2 rfl (by decide) _ k (ks.map (Value.int .i64)) rfl HO4.out (zd wr.heap.size) 1 1 [za y] rfl rfl HNW.out (by simp[Value.oneCell']) (by unfold maxLen;omega) (by omega) bs.out ?_);intro v' w5 hown hgrow hnn;have HV5:Hid (∃g cap,v'= .slice (some (zd g)) (k+1) cap):=by
    show∃g cap,_;rcases hown.2 with⟨e,h0⟩|⟨g',cap',cur,e,_⟩
    ·omega
    ·exact⟨g',cap',e⟩
   have HO5:Hid (zP w5 w.heap.size 2 v' ((ps.take (k+1)).map (·.1))):=by
    show zP _ _ _ _ _;unfold zP;rw[HM.out,List.length_append,HLk.out,List.map_append];exact hown
   have G:Chg w.heap.size (wr.heap.size+1) (wr.alloc (.cells #[za y] 2)) w5:=Chg.ofGrown hgrow (fun g hg hlt=>⟨Hgb.out g hg,by simpa using hlt⟩);have HC5:Hid (Chg 0 0 w w5):=(HCH.out.alloc _).step G (Or.inr (Or.inl (Nat.le_refl _)));clear hown hgrow G HNW HO4 bs hnn;go_wp2;go_roundw
   case rel=>exact⟨k+1,by omega,by go_num,HV5.out,HO5.out,HC5.out⟩
   case measure=>simp[intOf];omega
  ·obtain rfl:k=ps.length:=by omega
   clear ho hch h1;go_wp2;go_ret;exact⟨_,rfl,by have:=HO.out;rwa [List.take_length] at this,HCH.out⟩
theorem Xl (w:World)(ao:Option Addr)(cap:Nat):
  Calls Tryz.prog 81 #[.slice ao 0 cap] w fun e w'=> ∃v,e= .returned v∧zP w' w.heap.size 2 v []∧Chg 0 0 w w':=by
 have C0:Chg 0 0 w (w.alloc (.cells #[] 2)):=Chg.alloc (Chg.refl 0 0 w) _;have HO0:Hid (zP (w.alloc (.cells #[] 2)) w.heap.size 2 (.slice (some (zd w.heap.size)) 0 0) []):=by
  show zP _ _ _ _ _;have:=World.ownsRow_lit (base:=w.heap.size) (e:=2) (size:=1) w #[] 0 (Nat.le_refl _) (by unfold maxLen;omega) rfl;simpa [zP] using this
 go_enter Tryz.func81,Tryz.ntmps81;go_wp2;refine wp_loop_rounds 1 ?_;rw[rounds_succ];go_wp2;go_ret;exact⟨_,rfl,HO0.out,C0⟩
theorem JY (w:World){lo hi:Nat}{a:Value}{ps:List Wr}(hl:ps.length≤1048576)(h1:qF w lo hi a ps):
  Calls Tryz.prog 81 #[a] w fun e w'=> ∃v,e= .returned v∧zP w' w.heap.size 2 v (ps.map (·.1))∧Chg 0 0 w w':=by
 obtain⟨ao,cap,rfl,_,_,h1⟩:=h1;rcases h1 with rfl|⟨x,off,rfl,_,_,h1⟩
 ·exact Xl w ao cap
 ·exact Xm w ps lo hi x off cap hl h1
def KT (t:Tx):Prop:=(1≤t.seq∧t.seq≤4294967295)∧1≤t.homes.length+t.revs.length∧t.homes.length+t.revs.length≤128
def Q8 (t:Tx) (h:Wr):Prop:=h.2.length=64∧h.1∉t.revs
def jQ (t:Tx) (n:Nat):Prop:= ∀i,i<n→Q8 t (t.homes.getD i (0,[]))
def jx (t:Tx):Prop:=KT t∧qS (t.homes.map (·.1))=true∧qS t.revs=true∧jQ t t.homes.length
def qO (t:Tx):Bool:=decide (((1≤t.seq∧t.seq≤4294967295)∧1≤t.homes.length+t.revs.length∧t.homes.length+t.revs.length≤128)∧qS (t.homes.map (·.1))=true∧qS t.revs=true∧ ∀i,i<t.homes.length→(t.homes.getD i (0,[])).2.length=64∧(t.homes.getD i (0,[])).1∉t.revs)
theorem qz {t:Tx}(h:jx t):qO t=true:=decide_eq_true h
theorem z9 {t:Tx}(h: ¬jx t):qO t=false:=decide_eq_false h
theorem jQ.succ {t:Tx}{n:Nat}(h:jQ t n)(hn:Q8 t (t.homes.getD n (0,[]))):jQ t (n+1):=by
 intro i hi;by_cases e:i=n
 ·subst e;exact hn
 ·exact h i (by omega)
theorem J5 (w:World){lo hi:Nat}{a:Value}{t:Tx}(hl:Z3 t≤1048576)(h1:jI w lo hi a t):
  Calls Tryz.prog 51 #[a] w fun e w'=>e= .returned (.bool (qO t))∧Chg 0 0 w w':=by
 have hl1:t.homes.length≤1048576:=by have:=abL t.homes;unfold Z3 at hl;omega
 have hl2:t.revs.length≤1048576:=by unfold Z3 at hl;omega
 obtain⟨hv,rv,rfl,p1,v1⟩:=h1;obtain⟨po,pcap,rfl⟩:=p1.slice;obtain⟨ao,cap,rfl⟩:=v1.slice;have hA:Chg 0 0 w (w.alloc (.cells #[za t.seq,.slice po t.homes.length pcap,.slice ao t.revs.length cap] 35)):=Chg.alloc (Chg.refl 0 0 w) _;have B0:=zh w (.cells #[za t.seq,.slice po t.homes.length pcap,.slice ao t.revs.length cap] 35);have s0:(w.alloc (.cells #[za t.seq,.slice po t.homes.length pcap,.slice ao t.revs.length cap] 35)).heap.size=w.heap.size+1:=by simp
 obtain⟨⟨k0,k1,k2⟩,_⟩:=tri B0;have HP:Hid (qF w lo hi (.slice po t.homes.length pcap) t.homes):=p1;have HR:Hid (zr w lo hi .i64 (.slice ao t.revs.length cap) t.revs):=v1;have HA:Hid (Chg 0 0 w (w.alloc (.cells #[za t.seq,.slice po t.homes.length pcap,.slice ao t.revs.length cap] 35))):=hA;have HB0:Hid ((w.alloc (.cells #[za t.seq,.slice po t.homes.length pcap,.slice ao t.revs.length cap] 35)).heap[w.heap.size]?=some (.cells #[za t.seq,.slice po t.homes.length pcap,.slice ao t.revs.length cap] 35 (0,0))):=B0
 obtain⟨b1,Hb1⟩: ∃b,Hid (b=qS (t.homes.map (·.1))):=⟨_,rfl⟩;obtain⟨b2,Hb2⟩: ∃b,Hid (b=qS t.revs):=⟨_,rfl⟩;clear p1 v1 hA B0;go_enter Tryz.func51,Tryz.ntmps51;go_wp2_with fail;generalize (w.alloc (.cells #[za t.seq,.slice po t.homes.length pcap,.slice ao t.revs.length cap] 35))=w0 at*;refine(jp _ t.seq).mono ?_;rintro e w1 ⟨rfl,rfl⟩;by_cases hs:KT t
 case neg=>
  have Hv:Hid (qO t=false):=z9 (fun h=>hs h.1);by_cases hq:1≤t.seq∧t.seq≤4294967295
  ·have hg:qf t.seq=true:=by unfold qf;simpa using hq
   rw[hg];have hn:(t.homes.length:Int)+t.revs.length<1∨128<(t.homes.length:Int)+t.revs.length:=by
    by_cases h:1≤t.homes.length+t.revs.length
    ·right;have: ¬t.homes.length+t.revs.length≤128:=fun h'=>hs ⟨hq,h,h'⟩;omega
    ·left;omega
   clear hs hg;rcases hn with hn|hn
   ·go_wp2;go_ret;exact⟨by rw[Hv.out];rfl,HA.out⟩
   ·go_wp2;go_ret;exact⟨by rw[Hv.out];rfl,HA.out⟩
  ·have hg:qf t.seq=false:=by unfold qf;rw[Bool.eq_false_iff];simpa using hq
   rw[hg];clear hs hg;go_wp2;go_ret;exact⟨by rw[Hv.out];rfl,HA.out⟩
 obtain⟨hq,hn1,hn2⟩:=id hs;have hg:qf t.seq=true:=by unfold qf;simpa using hq
 have hn1': ¬(t.homes.length:Int)+t.revs.length<1:=by omega
 have hn2': ¬128<(t.homes.length:Int)+t.revs.length:=by omega
 have HS:Hid (KT t):=hs;rw[hg];clear hg hs;go_wp2_with fail;refine(JY _ hl1 (HP.out.chg HA.out (by omega))).mono ?_;rintro e w2 ⟨bv,rfl,ob,h2⟩;have vb:=ob.view (hi:=w2.heap.size) (by rw[List.length_map];omega) (fun g hg=>(ob.lt g hg).2);have HA2:Hid _:=HA.out.trans h2;have HB2:Hid _:=(h2.block _ (by omega) (by omega)).trans HB0.out;obtain⟨bo,bcap,hbv⟩:=vb.slice;rw[List.length_map] at hbv;subst hbv
 clear ob h2 k0 k1 k2 hn1' hn2';go_wp2_with fail;refine(Q9 _ vb).mono ?_;rintro e w3 ⟨he,h3⟩;rw[←Hb1.out] at he;subst he;have HA3:Hid _:=HA2.out.trans (h3.chg 0 0);have HB3:Hid (w3.heap[w.heap.size]?=some (.cells #[za t.seq,.slice po t.homes.length pcap,.slice ao t.revs.length cap] 35 (0,0))):=by show _=_;rw[h3.heap];exact HB2.out
 obtain⟨⟨k0,k1,k2⟩,_⟩:=tri HB3.out;clear h3 vb HA2 HB2;go_wp2_with fail;refine(Q9 _ (HR.out.chg HA3.out (by omega))).mono ?_;rintro e w4 ⟨he,h4⟩;rw[←Hb2.out] at he;subst he;have HA4:Hid _:=HA3.out.trans (h4.chg 0 0);have HB4:Hid (w4.heap[w.heap.size]?=some (.cells #[za t.seq,.slice po t.homes.length pcap,.slice ao t.revs.length cap] 35 (0,0))):=by show _=_;rw[h4.heap];exact HB3.out
 clear h4 k0 k1 k2 HA3 HB3
 cases b1
 case false=>
  have Hv:Hid (qO t=false):=z9 (fun h=>by have:=h.2.1;rw[←Hb1.out] at this;cases this);go_wp2;go_ret;exact⟨by rw[Hv.out];rfl,HA4.out⟩
 cases b2
 case false=>
  have Hv:Hid (qO t=false):=z9 (fun h=>by have:=h.2.2.1;rw[←Hb2.out] at this;cases this);go_wp2;go_ret;exact⟨by rw[Hv.out];rfl,HA4.out⟩
 have H1:Hid _:=Hb1.out.symm;have H2:Hid _:=Hb2.out.symm;go_wp2;go_loopw [8] (fun i wr=>qC w4 wr∧ ∃k:Nat,k≤t.homes.length∧i=za k∧jQ t k) (fun i _=>t.homes.length-(intOf i).toNat)
 case atStart=>exact⟨qC.refl _,0,Nat.zero_le _,rfl,fun i h=>absurd h (Nat.not_lt_zero i)⟩
 case round=>
  obtain⟨hal,k,hk,rfl,hO⟩:=hrel;have HO:Hid (jQ t k):=hO;have HS4:Hid (qC w4 wr):=hal;have HC:Hid _:=HA4.out.trans (hal.chg 0 0);have HB:wr.heap[w.heap.size]?=some (.cells #[za t.seq,.slice po t.homes.length pcap,.slice ao t.revs.length cap] 35 (0,0)):=by rw[hal.heap];exact HB4.out
  obtain⟨⟨k0,k1,k2⟩,_⟩:=tri HB;clear hO hal HB;by_cases hlt:k<t.homes.length
  ·obtain⟨b,off,he,c1,dv,c2,vd⟩: ∃b off,po=some ⟨b,off,none⟩∧wr.cell? ⟨b,off+k*2,none⟩=some (za (t.homes.getD k (0,[])).1)∧ ∃dv,wr.cell? ⟨b,off+k*2+1,none⟩=some dv∧zr wr lo hi .u8 dv (t.homes.getD k (0,[])).2:=by
    obtain⟨po',pc',he,_,_,hp⟩:=HP.out.chg HC.out (by omega);simp only[Value.slice.injEq] at he;obtain⟨rfl,_,rfl⟩:=he;rcases hp with hp|⟨b,off,rfl,_,_,hp⟩
    ·rw[hp] at hlt;simp at hlt
    ·obtain⟨dv,c1,c2,vd⟩:=hp k hlt;exact⟨b,off,rfl,c1,dv,c2,vd⟩
   subst he;obtain⟨d0,dcap,rfl⟩:=vd.slice;have hik:(k:Int)<(t.homes.length:Int):=by omega
   have hok:Q8 t (t.homes.getD k (0,[]))→jQ t (k+1):=fun h=>HO.out.succ h;have hno: ¬Q8 t (t.homes.getD k (0,[]))→qO t=false:=fun h=>z9 (fun hv=>h (hv.2.2.2 k hlt));have hVr: ∀m,zr (wr.drewN m) lo hi .i64 (.slice ao t.revs.length cap) t.revs:=fun m=>HR.out.chg (HC.out.drewN m) (by omega);unfold Q8 at hok hno;generalize (t.homes.getD k (0,[])).1=q at*;generalize (t.homes.getD k (0,[])).2.length=n at*
   clear vd;by_cases hn:n=64
   ·subst hn;by_cases hm:q∈t.revs
    ·have Hv:Hid _:=hno (fun h=>h.2 hm);have hd:=decide_eq_true hm;have hN:=fun m=>Yr (wr.drewN m) q (hVr m);rw[hd] at hN;clear hok hno hVr hd hm;go_wp2;go_quiet (first|(go_at_call 83;exact Calls.quiet_of_same (hN _)));clear hN;go_wp2;go_ret;exact⟨by rw[Hv.out];rfl,HC.out.drewN _⟩
    ·have Hn:Hid (jQ t (k+1)):=hok ⟨rfl,hm⟩;have hd:=decide_eq_false hm;have hN:=fun m=>Yr (wr.drewN m) q (hVr m);rw[hd] at hN;clear hok hno hVr hd hm;go_wp2;go_quiet (first|(go_at_call 83;exact Calls.quiet_of_same (hN _)));clear hN;go_wp2;go_roundw
     case rel=>exact⟨HS4.out.drewN _,k+1,by omega,by go_num,Hn.out⟩
     case measure=>simp[intOf];omega
   ·have Hv:Hid _:=hno (fun h=>hn h.1);have hne:((n:Int) !=64)=true:=by simp;omega
    clear hok hno hVr hn;go_wp2;go_quiet (fail);go_wp2;go_ret;exact⟨by rw[Hv.out];rfl,HC.out.drewN _⟩
  ·obtain rfl:k=t.homes.length:=by omega
   have Hv:Hid _:=qz ⟨HS.out,H1.out,H2.out,HO.out⟩;go_wp2;go_ret;exact⟨by rw[Hv.out];rfl,HC.out⟩
def Qh (q:Int) (xs:List Int):List Int:=qc (zm 3 xs.length q++z8 xs)
def zQ (h:Wr):Int×Bool:=(h.1,decide (h.2.take 4=mg))
def Qu (q:Int) (hs:List Wr):List Int:=qc (zm 2 hs.length q++zE (hs.map zQ))
def zG (q:Int) (hs:List Wr):List (List Int):=Qu q hs::hs.map fun h=>jy h.2
def jY {α:Type} (n:Nat) (xs:List α):List (List α):=(List.range ((xs.length+n-1)/n)).map fun i=>(xs.drop (n*i)).take n
theorem Um {α:Type}(n:Nat)(xs:List α):(jY n xs).length=(xs.length+n-1)/n:=by simp[jY]
theorem Zm {α:Type}(n:Nat)(hn:0<n):jY n ([]:List α)= []:=by
 have:([]:List α).length+n-1=n-1:=by simp
 unfold jY;rw[this,Nat.div_eq_of_lt (by omega)];rfl
theorem Zl {α:Type}(n:Nat)(hn:0<n){xs:List α}(h:0<xs.length):jY n xs=xs.take n::jY n (xs.drop n):=by
 unfold jY;have e:(xs.length+n-1)/n=((xs.drop n).length+n-1)/n+1:=by
  rw[List.length_drop];by_cases hl:n≤xs.length
  ·rw[show xs.length+n-1=(xs.length-n+n-1)+n by omega,Nat.add_div_right _ hn]
  ·rw[show xs.length-n=0 by omega,Nat.div_eq_of_lt (show 0+n-1<n by omega)];rw[show xs.length+n-1=(xs.length-1)+n by omega,Nat.add_div_right _ hn,Nat.div_eq_of_lt (by omega)]
 rw[e,List.range_succ_eq_map,List.map_cons,List.map_map];congr 1;apply List.map_congr_left;intro i _;simp only[Function.comp,List.drop_drop,Nat.mul_succ];congr 2;omega
theorem VO {α:Type}{n:Nat}{xs c:List α}(h:c∈jY n xs): ∀x∈c,x∈xs:=by
 unfold jY at h;obtain⟨i,_,rfl⟩:=List.mem_map.1 h;intro x hx;exact List.mem_of_mem_drop (List.mem_of_mem_take hx)
def BL (q:Int) (hs:List Wr) (rs:List Int):List (List Int):=(jY 26 rs).map (Qh q)++(jY 17 hs).flatMap (zG q)
theorem ET (q:Int):BL q [] []= []:=by unfold BL;rw[Zm 26 (by omega),Zm 17 (by omega)];rfl
theorem EU (q:Int)(hs:List Wr){rs:List Int}(h:0<rs.length):BL q hs rs=Qh q (rs.take 26)::BL q hs (rs.drop 26):=by
 unfold BL;rw[Zl 26 (by omega) h];rfl
theorem Ui (q:Int){hs:List Wr}(h:0<hs.length):BL q hs []=zG q (hs.take 17)++BL q (hs.drop 17) []:=by
 unfold BL;rw[Zl 17 (by omega) h,Zm 26 (by omega)];simp
structure OkT (q:Int)(hs:List Wr)(rs:List Int):Prop where
 q0:1≤q
 q1:q≤4294967295
 rev:zK rs rs.length
 home:zK (hs.map (·.1)) hs.length
 data: ∀h∈hs,h.2.length=64
 byt: ∀h∈hs,Byt h.2
theorem zK.drop {xs:List Int}(h:zK xs xs.length)(n:Nat):zK (xs.drop n) (xs.drop n).length:=by
 intro i hi;rw[List.length_drop] at hi;have e: ∀j,(xs.drop n).getD j 0=xs.getD (n+j) 0:=fun j=>by simp[List.getD_eq_getElem?_getD,List.getElem?_drop]
 have hx:=h (n+i) (by omega);rw[e];by_cases hz:i=0
 ·subst hz;have hp:=h.pos (n+0) (by omega);exact jv.2 ⟨by show(-1:Int)<_;omega,(jv.1 hx).2⟩
 ·obtain⟨j,rfl⟩: ∃j,i=j+1:=⟨i-1,by omega⟩;have e1:qg (xs.drop n) (j+1)=xs.getD (n+j) 0:=by unfold qg;rw[if_neg (by omega)];exact e j
  have e2:qg xs (n+(j+1))=xs.getD (n+j) 0:=by unfold qg;rw[if_neg (by omega)];rfl
  rw[e1,←e2];exact hx
theorem zK.take {xs:List Int}(h:zK xs xs.length)(n:Nat):zK (xs.take n) (xs.take n).length:=by
 intro i hi;rw[List.length_take] at hi;have e: ∀j,j<n→(xs.take n).getD j 0=xs.getD j 0:=fun j hj=>by simp[List.getD_eq_getElem?_getD,hj]
 have hx:=h i (by omega);rw[e i (by omega)];by_cases hz:i=0
 ·subst hz;exact hx
 ·obtain⟨j,rfl⟩: ∃j,i=j+1:=⟨i-1,by omega⟩;have e1:qg (xs.take n) (j+1)=xs.getD j 0:=by unfold qg;rw[if_neg (by omega)];exact e j (by omega)
  have e2:qg xs (j+1)=xs.getD j 0:=by unfold qg;rw[if_neg (by omega)];rfl
  rw[e1,←e2];exact hx
theorem XP {hs:List Wr}(h:zK (hs.map (·.1)) hs.length):zK (hs.map (·.1)) (hs.map (·.1)).length:=by rw[List.length_map];exact h
theorem OkT.dropR {q:Int}{hs:List Wr}{rs:List Int}(h:OkT q hs rs)(n:Nat):OkT q hs (rs.drop n):=⟨h.q0,h.q1,h.rev.drop n,h.home,h.data,h.byt⟩
theorem OkT.dropH {q:Int}{hs:List Wr}{rs:List Int}(h:OkT q hs rs)(n:Nat):OkT q (hs.drop n) rs:=
 ⟨h.q0,h.q1,h.rev,by have:=(XP h.home).drop n;rw[←List.map_drop,List.length_map] at this;exact this,fun x hx=>h.data x (List.mem_of_mem_drop hx),fun x hx=>h.byt x (List.mem_of_mem_drop hx)⟩
theorem OkT.takeH {q:Int}{hs:List Wr}{rs:List Int}(h:OkT q hs rs)(n:Nat):OkT q (hs.take n) rs:=
 ⟨h.q0,h.q1,h.rev,by have:=(XP h.home).take n;rw[←List.map_take,List.length_map] at this;exact this,fun x hx=>h.data x (List.mem_of_mem_take hx),fun x hx=>h.byt x (List.mem_of_mem_take hx)⟩
theorem OkT.of {t:Tx}(h:jx t)(hb: ∀x∈t.homes,Byt x.2):OkT t.seq t.homes t.revs:=by
 obtain⟨⟨⟨h1,h2⟩,_⟩,h3,h4,h5⟩:=h;refine⟨h1,h2,qY.1 h4,by have:=qY.1 h3;rwa [List.length_map] at this,?_,hb⟩;intro x hx;obtain⟨i,hi,rfl⟩:=List.mem_iff_getElem.1 hx;have:=(h5 i hi).1;rwa [show t.homes.getD i (0,[])=t.homes[i] by simp[List.getD_eq_getElem?_getD,hi]] at this
theorem Uf {q:Int}{hs:List Wr}{rs:List Int}(h:OkT q hs rs):zK ((hs.map zQ).map (·.1)) (hs.map zQ).length:=by
 rw[List.map_map,List.length_map];exact h.home
theorem acr {q:Int}{xs:List Int}(h0:1≤q)(h1:q≤4294967295)(hl:xs.length≤26)(hx: ∀x∈xs,0≤x∧x<2048):(Qh q xs).length=64:=by
 unfold Qh qc;have e:(zm 3 xs.length q++z8 xs).length=12+2*xs.length:=by rw[List.length_append,Qp (pn2 (by omega) (by omega)) (pn4 (by omega) h1),Qq hx]
 rw[List.length_append,List.length_replicate,e];omega
theorem E4 {q:Int}{hs:List Wr}(h0:1≤q)(h1:q≤4294967295)(hl:hs.length≤17)(hx: ∀x∈hs,0≤x.1∧x.1<2048):(Qu q hs).length=64:=by
 unfold Qu qc;have e:(zm 2 hs.length q++zE (hs.map zQ)).length=12+3*hs.length:=by
  rw[List.length_append,Qp (pn2 (by omega) (by omega)) (pn4 (by omega) h1),Qs (fun x hx'=>by obtain⟨y,hy,rfl⟩:=List.mem_map.1 hx';exact hx y hy),List.length_map]
 rw[List.length_append,List.length_replicate,e];omega
theorem OkT.homes_in {q:Int}{hs:List Wr}{rs:List Int}(h:OkT q hs rs): ∀x∈hs,0≤x.1∧x.1<2048:=fun x hx=>
 (XP h.home).bound (Nat.le_refl _) x.1 (List.mem_map.2 ⟨x,hx,rfl⟩)
theorem VQ {q:Int}{hs:List Wr}{rs:List Int}(h:OkT q hs rs)(hl:hs.length≤17): ∀b∈zG q hs,b.length=64:=by
 intro b hb;unfold zG at hb;rcases List.mem_cons.1 hb with rfl|hb
 ·exact E4 h.q0 h.q1 hl h.homes_in
 ·obtain⟨x,hx,rfl⟩:=List.mem_map.1 hb;exact ji (h.data x hx)
theorem VG (n:Nat){q:Int}: ∀ {hs:List Wr} {rs:List Int},hs.length+rs.length≤n→OkT q hs rs→(∀b∈BL q hs rs,b.length=64)∧(BL q hs rs).length≤2*hs.length+rs.length:=by
 induction n with
 |zero=>
  intro hs rs hn h;obtain rfl:hs= []:=List.eq_nil_of_length_eq_zero (by omega);obtain rfl:rs= []:=List.eq_nil_of_length_eq_zero (by simp only[List.length_nil] at hn;omega);rw[ET];simp
 |succ n ih=>
  intro hs rs hn h;by_cases hr:0<rs.length
  ·obtain⟨i1,i2⟩:=ih (hs:=hs) (rs:=rs.drop 26) (by rw[List.length_drop];omega) (h.dropR 26);rw[EU q hs hr];refine⟨?_,by rw[List.length_cons];rw[List.length_drop] at i2;omega⟩;intro b hb;rcases List.mem_cons.1 hb with rfl|hb
   ·exact acr h.q0 h.q1 (by rw[List.length_take];omega) (fun x hx=>h.rev.bound (Nat.le_refl _) x (List.mem_of_mem_take hx))
   ·exact i1 b hb
  ·obtain rfl:rs= []:=List.eq_nil_of_length_eq_zero (by omega);by_cases hh:0<hs.length
   ·obtain⟨i1,i2⟩:=ih (hs:=hs.drop 17) (rs:= []) (by rw[List.length_drop];simp at hn⊢;omega) (h.dropH 17);rw[Ui q hh];refine⟨?_,?_⟩
    ·intro b hb;rcases List.mem_append.1 hb with hb|hb
     ·exact VQ (h.takeH 17) (by rw[List.length_take];omega) b hb
     ·exact i1 b hb
    ·rw[List.length_append];have e:(zG q (hs.take 17)).length=(hs.take 17).length+1:=by unfold zG;simp
     rw[e,List.length_take];rw[List.length_drop] at i2;simp only[List.length_nil] at i2⊢;omega
   ·obtain rfl:hs= []:=List.eq_nil_of_length_eq_zero (by omega);rw[ET];simp
theorem Q2 {bs:List (List Int)}(h: ∀b∈bs,b.length=64):bs.flatten.length=64*bs.length:=by
 induction bs with
 |nil=>rfl
 |cons b r ih=>rw[List.flatten_cons,List.length_append,h b (by simp),ih (fun x hx=>h x (by simp[hx])),List.length_cons];omega
theorem jR (w:World)(kd it sq:Int)(m0:w.cell? (zd 0)=some (zb 106))(m1:w.cell? ⟨0,1,none⟩=some (zb 108))(m2:w.cell? ⟨0,2,none⟩=some (zb 111))(m3:w.cell? ⟨0,3,none⟩=some (zb 103)):
  Calls Tryz.prog 102 #[za kd,za it,za sq] w fun e w'=>e= .returned (.agg #[zb 106,zb 108,zb 111,zb 103,za kd,za it,za sq])∧Chg 0 0 w w':=by
 have C0:Chg 0 0 w (w.alloc (.cells #[zb 0,zb 0,zb 0,zb 0,za 0,za 0,za 0] 138)):=Chg.alloc (Chg.refl 0 0 w) _;have n0:=C0.cell m0 (by omega);have n1:=C0.cell m1 (by omega);have n2:=C0.cell m2 (by omega);have n3:=C0.cell m3 (by omega);have HC:Hid (Chg 0 0 w (w.alloc (.cells #[zb 106,zb 108,zb 111,zb 103,za kd,za it,za sq] 138))):=Chg.alloc (Chg.refl 0 0 w) _;clear C0;go_enter Tryz.func102,Tryz.ntmps102
 go_wp2;exact bodyPost_ret (v:= .agg #[zb 106,zb 108,zb 111,zb 103,za kd,za it,za sq]) (by simp[results,Tryz.results102,go_sem]) rfl ⟨rfl,HC.out⟩
structure Mag (w:World):Prop where
 m0:w.cell? (zd 0)=some (zb 106)
 m1:w.cell? ⟨0,1,none⟩=some (zb 108)
 m2:w.cell? ⟨0,2,none⟩=some (zb 111)
 m3:w.cell? ⟨0,3,none⟩=some (zb 103)
theorem Mag.chg {w w':World}{lo hi:Nat}(h:Mag w)(c:Chg lo hi w w')(hlo:hi≤lo∨8≤lo):Mag w':=
 ⟨c.cell h.m0 (by omega),c.cell h.m1 (by omega),c.cell h.m2 (by omega),c.cell h.m3 (by omega)⟩
theorem Mag.lt {w:World}(h:Mag w):0<w.heap.size:=zF h.m0
theorem KM (w:World)(q:Int)(b off n cap:Nat)(_hn:n≤1048576)(hm:Mag w):
  Calls Tryz.prog 96 #[.agg #[za q,.slice (some ⟨b,off,none⟩) n cap]] w fun e w'=>e= .returned (.agg #[zb 106,zb 108,zb 111,zb 103,za 3,za n,za q,.slice (some ⟨b,off,none⟩) n cap])∧Chg 0 0 w w':=by
 obtain⟨z1,z2,z3⟩:=zN w (.cells #[za q,.slice (some ⟨b,off,none⟩) n cap] 168) (.cells #[zb 0,zb 0,zb 0,zb 0,za 0,za 0,za 0,zc] 191);have hA:Chg 0 0 w ((w.alloc (.cells #[za q,.slice (some ⟨b,off,none⟩) n cap] 168)).alloc (.cells #[zb 0,zb 0,zb 0,zb 0,za 0,za 0,za 0,zc] 191)):=(Chg.alloc (Chg.refl 0 0 w) _).alloc _;have HB:Hid _:=z2;have HZ:Hid _:=z3;have HC:Hid _:=hA;have HM:Hid (Mag w):=hm;have s0:((w.alloc (.cells #[za q,.slice (some ⟨b,off,none⟩) n cap] 168)).alloc (.cells #[zb 0,zb 0,zb 0,zb 0,za 0,za 0,za 0,zc] 191)).heap.size=w.heap.size+2:=z1
 clear z1 z2 z3 hA hm;go_enter Tryz.func96,Tryz.ntmps96;go_upto_region 1 with fail;generalize ((w.alloc (.cells #[za q,.slice (some ⟨b,off,none⟩) n cap] 168)).alloc (.cells #[zb 0,zb 0,zb 0,zb 0,za 0,za 0,za 0,zc] 191))=wa at*;have HS:Hid ((fun w':World=>w'.heap[w.heap.size]?=some (.cells #[za q,.slice (some ⟨b,off,none⟩) n cap] 168 (0,0))) wa.drew):=HB.out;refine zp (fun w':World=>w'.heap[w.heap.size]?=some (.cells #[za q,.slice (some ⟨b,off,none⟩) n cap] 168 (0,0))) (by kernel_rfl) ?_
 refine hTk 0 (.pointer (some ⟨w.heap.size,1,none⟩)) rfl (fun w' hw'=>by go_simp) HS.out ?_;go_simp;refine hTk 1 (.slice (some ⟨b,off,none⟩) n cap) rfl (fun w' hw'=>by obtain⟨q0,q1,_,_⟩:=zn hw';go_simp) HS.out ?_;go_simp;refine hTk 2 (za n) rfl (fun w' hw'=>by go_simp) HS.out ?_;go_simp;refine hTk 3 (.pointer (some (zd w.heap.size))) rfl (fun w' hw'=>by go_simp) HS.out ?_;go_simp;refine hTk 4 (za q) rfl (fun w' hw'=>by obtain⟨q0,q1,_,_⟩:=zn hw';go_simp) HS.out ?_
 go_simp;refine hTk 6 (.pointer (some ⟨w.heap.size,1,none⟩)) rfl (fun w' hw'=>by go_simp) HS.out ?_;go_simp;refine hTk 7 (.slice (some ⟨b,off,none⟩) n cap) rfl (fun w' hw'=>by obtain⟨q0,q1,_,_⟩:=zn hw';go_simp) HS.out ?_;go_simp;have HC1:Hid (Chg 0 0 w wa.drew):=HC.out.drew;have HZ1:Hid (wa.drew.heap[w.heap.size+1]?=some (.cells #[zb 0,zb 0,zb 0,zb 0,za 0,za 0,za 0,zc] 191 (0,0))):=HZ.out;have s1:wa.drew.heap.size=w.heap.size+2:=s0
 clear HC HZ HB;generalize wa.drew=w1 at*;have hM:=HM.out.chg HC1.out (by omega);refine zg 5 rfl rfl (by kernel_rfl) ?_;refine zl 102 #[za 3,za n,za q] (by first|kernel_rfl|go_simp) (jR w1 3 n q hM.m0 hM.m1 hM.m2 hM.m3) ?_;rintro e w2 ⟨rfl,h2⟩;have HS2:Hid ((fun w':World=>w'.heap[w.heap.size]?=some (.cells #[za q,.slice (some ⟨b,off,none⟩) n cap] 168 (0,0))) w2):=(h2.block _ (by omega) (by omega)).trans HS.out
 have HZ2:Hid _:=(h2.block _ (by omega) (by omega)).trans HZ1.out;have HC2:Hid _:=HC1.out.trans h2;refine⟨_,rfl,HS2.out,?_⟩;clear h2 hM HS HZ1 HC1;go_simp;refine hTk 8 (.agg #[zb 106,zb 108,zb 111,zb 103,za 3,za n,za q,.slice (some ⟨b,off,none⟩) n cap]) rfl (fun w' hw'=>by go_simp) HS2.out ?_;go_simp;refine zg 9 rfl rfl (by kernel_rfl) ?_;refine wp_store_row 191 (.tmp 2) (.tmp 11) rfl rfl (w.heap.size+1) rfl [zb 106,zb 108,zb 111,zb 103,za 3,za n,za q,.slice (some ⟨b,off,none⟩) n cap] [zb 0,zb 0,zb 0,zb 0,za 0,za 0,za 0,zc] 191 rfl HZ2.out rfl (by kernel_rfl) (by simp[Value.oneCell']) ?_
 intro w3 hb3 hc3;have HS3:Hid _:=(hc3.block _ (gLt HS2.out) (by omega)).trans HS2.out;have HC3:Hid _:=HC2.out.step hc3 (by omega);have HB3:Hid _:=hb3;refine⟨HS3.out,?_⟩;clear hb3 hc3;refine zt (by kernel_rfl) (NoPanic.normal ?_);go_wp2;have hb:=HB3.out;exact bodyPost_ret (v:= .agg #[zb 106,zb 108,zb 111,zb 103,za 3,za n,za q,.slice (some ⟨b,off,none⟩) n cap]) (by simp[results,Tryz.results96,go_sem,World.cell?,hb]) rfl ⟨rfl,HC3.out⟩
theorem JU (w:World)(q:Int)(b off n cap:Nat)(_hn:n≤1048576)(hm:Mag w):
  Calls Tryz.prog 122 #[.agg #[za q,.slice (some ⟨b,off,none⟩) n cap]] w fun e w'=>e= .returned (.agg #[zb 106,zb 108,zb 111,zb 103,za 2,za n,za q,.slice (some ⟨b,off,none⟩) n cap])∧Chg 0 0 w w':=by
 obtain⟨z1,z2,z3⟩:=zN w (.cells #[za q,.slice (some ⟨b,off,none⟩) n cap] 171) (.cells #[zb 0,zb 0,zb 0,zb 0,za 0,za 0,za 0,zc] 219);have hA:Chg 0 0 w ((w.alloc (.cells #[za q,.slice (some ⟨b,off,none⟩) n cap] 171)).alloc (.cells #[zb 0,zb 0,zb 0,zb 0,za 0,za 0,za 0,zc] 219)):=(Chg.alloc (Chg.refl 0 0 w) _).alloc _;have HB:Hid _:=z2;have HZ:Hid _:=z3;have HC:Hid _:=hA;have HM:Hid (Mag w):=hm;have s0:((w.alloc (.cells #[za q,.slice (some ⟨b,off,none⟩) n cap] 171)).alloc (.cells #[zb 0,zb 0,zb 0,zb 0,za 0,za 0,za 0,zc] 219)).heap.size=w.heap.size+2:=z1
 clear z1 z2 z3 hA hm;go_enter Tryz.func122,Tryz.ntmps122;go_upto_region 1 with fail;generalize ((w.alloc (.cells #[za q,.slice (some ⟨b,off,none⟩) n cap] 171)).alloc (.cells #[zb 0,zb 0,zb 0,zb 0,za 0,za 0,za 0,zc] 219))=wa at*;have HS:Hid ((fun w':World=>w'.heap[w.heap.size]?=some (.cells #[za q,.slice (some ⟨b,off,none⟩) n cap] 171 (0,0))) wa.drew):=HB.out;refine zp (fun w':World=>w'.heap[w.heap.size]?=some (.cells #[za q,.slice (some ⟨b,off,none⟩) n cap] 171 (0,0))) (by kernel_rfl) ?_
 refine hTk 0 (.pointer (some ⟨w.heap.size,1,none⟩)) rfl (fun w' hw'=>by go_simp) HS.out ?_;go_simp;refine hTk 1 (.slice (some ⟨b,off,none⟩) n cap) rfl (fun w' hw'=>by obtain⟨q0,q1,_,_⟩:=zn hw';go_simp) HS.out ?_;go_simp;refine hTk 2 (za n) rfl (fun w' hw'=>by go_simp) HS.out ?_;go_simp;refine hTk 3 (.pointer (some (zd w.heap.size))) rfl (fun w' hw'=>by go_simp) HS.out ?_;go_simp;refine hTk 4 (za q) rfl (fun w' hw'=>by obtain⟨q0,q1,_,_⟩:=zn hw';go_simp) HS.out ?_
 go_simp;refine hTk 6 (.pointer (some ⟨w.heap.size,1,none⟩)) rfl (fun w' hw'=>by go_simp) HS.out ?_;go_simp;refine hTk 7 (.slice (some ⟨b,off,none⟩) n cap) rfl (fun w' hw'=>by obtain⟨q0,q1,_,_⟩:=zn hw';go_simp) HS.out ?_;go_simp;have HC1:Hid (Chg 0 0 w wa.drew):=HC.out.drew;have HZ1:Hid (wa.drew.heap[w.heap.size+1]?=some (.cells #[zb 0,zb 0,zb 0,zb 0,za 0,za 0,za 0,zc] 219 (0,0))):=HZ.out;have s1:wa.drew.heap.size=w.heap.size+2:=s0
 clear HC HZ HB;generalize wa.drew=w1 at*;have hM:=HM.out.chg HC1.out (by omega);refine zg 5 rfl rfl (by kernel_rfl) ?_;refine zl 102 #[za 2,za n,za q] (by first|kernel_rfl|go_simp) (jR w1 2 n q hM.m0 hM.m1 hM.m2 hM.m3) ?_;rintro e w2 ⟨rfl,h2⟩;have HS2:Hid ((fun w':World=>w'.heap[w.heap.size]?=some (.cells #[za q,.slice (some ⟨b,off,none⟩) n cap] 171 (0,0))) w2):=(h2.block _ (by omega) (by omega)).trans HS.out
 have HZ2:Hid _:=(h2.block _ (by omega) (by omega)).trans HZ1.out;have HC2:Hid _:=HC1.out.trans h2;refine⟨_,rfl,HS2.out,?_⟩;clear h2 hM HS HZ1 HC1;go_simp;refine hTk 8 (.agg #[zb 106,zb 108,zb 111,zb 103,za 2,za n,za q,.slice (some ⟨b,off,none⟩) n cap]) rfl (fun w' hw'=>by go_simp) HS2.out ?_;go_simp;refine zg 9 rfl rfl (by kernel_rfl) ?_;refine wp_store_row 219 (.tmp 2) (.tmp 11) rfl rfl (w.heap.size+1) rfl [zb 106,zb 108,zb 111,zb 103,za 2,za n,za q,.slice (some ⟨b,off,none⟩) n cap] [zb 0,zb 0,zb 0,zb 0,za 0,za 0,za 0,zc] 219 rfl HZ2.out rfl (by kernel_rfl) (by simp[Value.oneCell']) ?_
 intro w3 hb3 hc3;have HS3:Hid _:=(hc3.block _ (gLt HS2.out) (by omega)).trans HS2.out;have HC3:Hid _:=HC2.out.step hc3 (by omega);have HB3:Hid _:=hb3;refine⟨HS3.out,?_⟩;clear hb3 hc3;refine zt (by kernel_rfl) (NoPanic.normal ?_);go_wp2;have hb:=HB3.out;exact bodyPost_ret (v:= .agg #[zb 106,zb 108,zb 111,zb 103,za 2,za n,za q,.slice (some ⟨b,off,none⟩) n cap]) (by simp[results,Tryz.results122,go_sem,World.cell?,hb]) rfl ⟨rfl,HC3.out⟩
theorem Vd (w:World)(xs:List Int)(hx:xs.length=64)(hB:Byt xs)(hG:Mag w):
  Calls Tryz.prog 121 #[.agg (xs.map (Value.int .u8)).toArray] w fun e w'=>e= .returned (.tuple #[.agg ((jy xs).map (Value.int .u8)).toArray,.bool (decide (xs.take 4=mg))])∧Chg 0 0 w w':=by
 obtain⟨cs,hcs⟩: ∃cs,cs=xs.map (Value.int .u8):=⟨_,rfl⟩;have L1:cs.length=64:=by rw[hcs];simpa using hx
 have L2: ∀v∈cs,v.oneCell'=true:=by rw[hcs];exact ints_oneCell _ _
 have HL1:Hid _:=L1;have HL2:Hid _:=L2;have Hcs:Hid _:=hcs;have Hx:Hid _:=hx;have HB:Hid (Byt xs):=hB;have hi44:(Tryz.prog.info? 72).map (·.size)=some cs.length:=by rw[L1];kernel_rfl
 have u44:=Tryz.underlying72;rw[←hcs];obtain⟨z1,z2,z3⟩:=zN w (.cells cs.toArray 72) (.cells Z64.toArray 72);have hA:Chg 0 0 w ((w.alloc (.cells cs.toArray 72)).alloc (.cells Z64.toArray 72)):=(Chg.alloc (Chg.refl 0 0 w) _).alloc _;obtain⟨h0,h1,h2,h3,h4,h5,h6,e7,hmg⟩: ∃h0 h1 h2 h3 h4 h5 h6:Int,hd7 xs= #[zb h0,zb h1,zb h2,zb h3,za h4,za h5,za h6]∧xs.take 4= [h0,h1,h2,h3]:=by
  refine⟨_,_,_,_,_,_,_,rfl,?_⟩
  match xs,hx with
  |a::b::c::d::r,_=>simp
 have Hmg:Hid _:=hmg;have He7:Hid _:=e7;have HGl:Hid (Mag w):=hG;clear L1 L2 hcs hx hB hG e7 hmg;go_enter Tryz.func121,Tryz.ntmps121;go_upto_region 1 with fail;simp only[zM];generalize (w.alloc (.cells cs.toArray 72)).alloc (.cells Z64.toArray 72)=wa at*;have Hz2:Hid _:=z2;have Hz3:Hid _:=z3;have HA:Hid _:=hA;have HGa:Hid (Mag wa):=HGl.out.chg hA (by omega);clear z2 z3 hA HGl;go_cut [8] (fun s8 wx=>s8= .bool (!decide (xs.take 4=mg))∧Chg 0 0 wa wx)
 case first=>
  have HS:Hid (_∧_):=⟨Hz2.out,HGa.out.chg (Chg.drew (Chg.refl 0 0 wa)) (by omega)⟩;refine zp (fun w':World=>w'.heap[w.heap.size]?=some (.cells cs.toArray 72 (0,0))∧Mag w') (by kernel_rfl) ?_;refine zv 0 (.agg cs.toArray) rfl (by kernel_rfl) (by kernel_rfl) (by kernel_rfl) (fun _ _ _ h=>h) (yieldsIf_load_mid (by kernel_rfl) 72 (.tmp 1) rfl w.heap.size 0 rfl cs _ (fun w' hw'=>zj hw'.1) Tryz.underlying72 rfl hi44) HS.out ?_
  go_simp;refine hTk 3 (.agg #[zb 106,zb 108,zb 111,zb 103]) rfl (fun w' hw'=>by have m0:=hw'.2.m0;have m1:=hw'.2.m1;have m2:=hw'.2.m2;have m3:=hw'.2.m3;go_simp) HS.out ?_;go_simp;have hN:=ZZ wa.drew xs Hx.out HB.out;rw[←Hcs.out,He7.out] at hN;refine zg 1 rfl rfl (by kernel_rfl) ?_;refine zl 139 #[.agg cs.toArray] (by first|kernel_rfl|go_simp) hN ?_;rintro e w1 ⟨rfl,hc1⟩;have HS1:Hid (_∧_):=⟨(hc1.block w.heap.size (gLt HS.out.1) (by omega)).trans HS.out.1,HS.out.2.chg hc1 (by omega)⟩
  have HC1:Hid _:=(Chg.drew (Chg.refl 0 0 wa)).trans hc1;refine⟨_,rfl,HS1.out,?_⟩;clear hc1 hN;go_simp;refine zg 2 rfl rfl (by kernel_rfl) ?_;refine zl 140 #[.agg #[zb h0,zb h1,zb h2,zb h3,za h4,za h5,za h6]] (by first|kernel_rfl|go_simp) (Jb w1 h0 h1 h2 h3 h4 h5 h6) ?_;rintro e w2 ⟨rfl,hc2⟩;have HS2:Hid (_∧_):=⟨(hc2.block w.heap.size (gLt HS1.out.1) (by omega)).trans HS1.out.1,HS1.out.2.chg hc2 (by omega)⟩
  have HC2:Hid _:=HC1.out.trans hc2;refine⟨_,rfl,HS2.out,?_⟩;clear hc2;go_simp;have heq:=qW w2 136 4 Tryz.underlying136 (xs:= [h0,h1,h2,h3]) (ys:=mg) (by rw[←Hmg.out];exact HB.out.take 4) Ul rfl rfl;obtain⟨bm,hbm⟩: ∃bm,bm=decide (xs.take 4=mg):=⟨_,rfl⟩;have hb4:decide ([h0,h1,h2,h3]=mg)=bm:=by rw[hbm,Hmg.out]
  rw[hb4] at heq;simp only[mg,List.map_cons,List.map_nil] at heq;have Hbm:Hid _:=hbm;clear hb4 hbm;refine zg 4 rfl rfl (by kernel_rfl) ?_;refine qA (v:= .bool (!bm)) (w':=w2) (by simp only[execOp,Act.eval];go_simp) ⟨HS2.out,?_⟩;go_simp;refine zt (by kernel_rfl) (NoPanic.normal ?_);go_wp2;go_meet;exact⟨by rw[Hbm.out],HC2.out⟩
 case rest=>
  obtain⟨rfl,hc3⟩:=hcut;generalize wc=w3 at*;have s3:=hc3.size;have HD:Hid _:=(hc3.block w.heap.size (gLt Hz2.out) (by omega)).trans Hz2.out;have HQ:Hid _:=(hc3.block (w.heap.size+1) (gLt Hz3.out) (by omega)).trans Hz3.out;have HC3:Hid _:=HA.out.trans hc3;clear hc3 HGa Hz2 Hz3 HA;by_cases hm:xs.take 4=mg
  ·have HEs:Hid (jy xs= [0,0,0,0]++xs.drop 4):=by show _=_;unfold jy;rw[if_pos hm]
   have Hm:Hid _:=hm;rw[decide_eq_true hm];obtain⟨c0,c1,c2,c3,cr,ecs⟩: ∃c0 c1 c2 c3 cr,cs=c0::c1::c2::c3::cr:=by
    have:=HL1.out
    match cs,this with
    |a::b::c::d::r,_=>exact⟨a,b,c,d,r,rfl⟩
   have Hecs:Hid _:=ecs;have hd3:=HD.out;rw[ecs] at hd3;obtain⟨k0,k1,k2,k3,f0,f1,f2,f3⟩:w3.cell? (zd w.heap.size)=some c0∧w3.cell? ⟨w.heap.size,1,none⟩=some c1∧w3.cell? ⟨w.heap.size,2,none⟩=some c2∧w3.cell? ⟨w.heap.size,3,none⟩=some c3∧w3.frozen? (zd w.heap.size)=false∧w3.frozen? ⟨w.heap.size,1,none⟩=false∧w3.frozen? ⟨w.heap.size,2,none⟩=false∧w3.frozen? ⟨w.heap.size,3,none⟩=false:=by
    simp[World.cell?,World.frozen?,hd3]
   have hcl:=fun ty=>E0 w3 w.heap.size 64 c0 c1 c2 c3 ty k0 k1 k2 k3 f0 f1 f2 f3;have Hd3:Hid _:=hd3;clear ecs hd3 hm;go_upto_region 4 with fail;have C4:Chg w.heap.size (w.heap.size+1) w3 ((((w3.setCell (zd w.heap.size) (zb 0)).setCell ⟨w.heap.size,1,none⟩ (zb 0)).setCell ⟨w.heap.size,2,none⟩ (zb 0)).setCell ⟨w.heap.size,3,none⟩ (zb 0)):=(((Chg.setCell (p:=(zd w.heap.size)) (Chg.refl _ _ _) (Or.inl ⟨Nat.le_refl _,Nat.lt_succ_self _⟩) _).setCell (p:=⟨w.heap.size,1,none⟩) (Or.inl ⟨Nat.le_refl _,Nat.lt_succ_self _⟩) _).setCell (p:=⟨w.heap.size,2,none⟩) (Or.inl ⟨Nat.le_refl _,Nat.lt_succ_self _⟩) _).setCell (p:=⟨w.heap.size,3,none⟩) (Or.inl ⟨Nat.le_refl _,Nat.lt_succ_self _⟩) _
   have D4:((((w3.setCell (zd w.heap.size) (zb 0)).setCell ⟨w.heap.size,1,none⟩ (zb 0)).setCell ⟨w.heap.size,2,none⟩ (zb 0)).setCell ⟨w.heap.size,3,none⟩ (zb 0)).heap[w.heap.size]?=some (.cells (List.toArray (zb 0::zb 0::zb 0::zb 0::cr)) 72 (0,0)):=by
    have e0:=heap_setCell_same w3 w.heap.size 0 _ _ (zb 0) Hd3.out;have e1:=heap_setCell_same _ w.heap.size 1 _ _ (zb 0) e0;have e2:=heap_setCell_same _ w.heap.size 2 _ _ (zb 0) e1;have e3:=heap_setCell_same _ w.heap.size 3 _ _ (zb 0) e2;simpa using e3
   generalize ((((w3.setCell (zd w.heap.size) (zb 0)).setCell ⟨w.heap.size,1,none⟩ (zb 0)).setCell ⟨w.heap.size,2,none⟩ (zb 0)).setCell ⟨w.heap.size,3,none⟩ (zb 0))=w4 at*;obtain⟨ds,hds⟩: ∃ds,ds=Value.int .u8 0::zb 0::zb 0::zb 0::cr:=⟨_,rfl⟩;have hdm:ds=(jy xs).map (Value.int .u8):=by
    have h1:=Hcs.out;have h2:=Hx.out;rw[Hecs.out] at h1;rw[hds,HEs.out]
    match xs,h2,h1 with
    |a::b::c::d::r,_,h1=>
     simp only[List.map_cons,List.cons.injEq] at h1;obtain⟨_,_,_,_,rfl⟩:=h1;simp
   have Hdm:Hid _:=hdm;have HRl2:Hid (ds.length=64):=by
    have h1:=HL1.out;rw[Hecs.out] at h1;show ds.length=64;rw[hds];simpa using h1
   have HRo2:Hid (∀v∈ds,v.oneCell'=true):=by
    show∀v∈ds,v.oneCell'=true;rw[hdm];exact ints_oneCell _ _
   have hids:(Tryz.prog.info? 72).map (·.size)=some ds.length:=by rw[HRl2.out];kernel_rfl
   rw[←hds] at D4;have HR4:Hid _:=zj D4;have HQ4:Hid _:=(C4.block (w.heap.size+1) (gLt HQ.out) (by omega)).trans HQ.out;have HCw4:Hid _:=HC3.out.step C4 (by omega);clear C4 D4 hds hdm k0 k1 k2 k3 f0 f1 f2 f3 hcl Hd3 HD HQ;go_wp2_with (first
    |(refine wpList_load_mid rfl 72 (.tmp 1) rfl w.heap.size 0 rfl ds _ HR4.out u44 rfl hids ?_)
    |(refine wpList_store_row rfl 72 (.tmp 2) (.tmp 11) rfl rfl (w.heap.size+1) rfl ds Z64 72 rfl HQ4.out (by rw[zD];exact HRl2.out) hids HRo2.out ?_;intro w9 hb9 hc9))
   have hl1:(loadVar 72 (zd (w.heap.size+1))).run Tryz.prog w9= .ok (.agg ds.toArray) w9:=run_loadVar_mid _ _ _ _ ds _ (zj hb9) Tryz.underlying72 rfl hids;refine bodyPost_ret (v:= .tuple #[.agg ds.toArray,.bool true]) (QF Tryz.results121 rfl rfl hl1) rfl ⟨?_,HCw4.out.step hc9 (by omega)⟩;rw[Hdm.out,decide_eq_true Hm.out]
  ·have HEs:Hid (jy xs=xs):=by show _=_;unfold jy;rw[if_neg hm]
   have Hm:Hid _:=hm;rw[decide_eq_false hm];have HR:Hid _:=zj HD.out;clear hm;go_wp2_with (first
    |(refine wpList_load_mid rfl 72 (.tmp 1) rfl w.heap.size 0 rfl cs _ HR.out u44 rfl hi44 ?_)
    |(refine wpList_store_row rfl 72 (.tmp 2) (.tmp 9) rfl rfl (w.heap.size+1) rfl cs Z64 72 rfl HQ.out (by rw[zD];exact HL1.out) hi44 HL2.out ?_;intro w9 hb9 hc9))
   have hl1:(loadVar 72 (zd (w.heap.size+1))).run Tryz.prog w9= .ok (.agg cs.toArray) w9:=run_loadVar_mid _ _ _ _ cs _ (zj hb9) Tryz.underlying72 rfl hi44;refine bodyPost_ret (v:= .tuple #[.agg cs.toArray,.bool false]) (QF Tryz.results121 rfl rfl hl1) rfl ⟨?_,HC3.out.step hc9 (by omega)⟩;rw[HEs.out,Hcs.out,decide_eq_false Hm.out]
def qN (ts:List (Int×Bool)):List Value:=ts.flatMap fun t=> [za t.1,.bool t.2]
theorem ZB (ts:List (Int×Bool)):(qN ts).length=ts.length*2:=by
 unfold qN
 induction ts with
 |nil=>rfl
 |cons t r ih=>rw[List.flatMap_cons,List.length_append,ih,List.length_cons];simp;omega
theorem acD (ts:List (Int×Bool))(t:Int×Bool):qN (ts++ [t])=qN ts++ [za t.1,.bool t.2]:=by unfold qN;simp
theorem Xv (ts:List (Int×Bool))(i:Nat)(h:i<ts.length):(qN ts)[i*2]?=some (za (ts.getD i (0,false)).1)∧(qN ts)[i*2+1]?=some (.bool (ts.getD i (0,false)).2):=by
 induction ts generalizing i with
 |nil=>simp at h
 |cons t r ih=>
  cases i with
  |zero=>simp[qN]
  |succ i=>
   have:=ih i (by simpa using h);have e:qN (t::r)=za t.1:: .bool t.2::qN r:=by simp[qN]
   rw[e,show(i+1)*2=i*2+1+1 by omega];simpa using this
def j7 (w:World) (base:Nat) (v:Value) (ts:List (Int×Bool)):Prop:=w.ownsRow base 176 2 v ts.length (qN ts)
theorem j7.lt {w:World}{base:Nat}{v:Value}{ts:List (Int×Bool)}(h:j7 w base v ts): ∀g,v.ownBlock=some g→base≤g∧g<w.heap.size:=World.ownsRow.lt h
theorem j7.chg {w w':World}{base l r:Nat}{v:Value}{ts:List (Int×Bool)}(h:j7 w base v ts)(c:Chg l r w w')(d: ∀g,v.ownBlock=some g→g<l∨r≤g):j7 w' base v ts:=by
 obtain⟨h1,h2⟩:=h;refine⟨h1,?_⟩;rcases h2 with h2|⟨g,cap,cur,hv,hg,hh,r⟩
 ·exact Or.inl h2
 ·refine Or.inr ⟨g,cap,cur,hv,hg,?_,r⟩;rw[c.block g (gLt hh) (d g (by rw[hv];rfl))];exact hh
theorem j7.nil (w:World)(base:Nat):j7 w base (zc) []:=World.ownsRow_nil _ _ _ _
theorem j7.cells {w:World}{base:Nat}{v:Value}{ts:List (Int×Bool)}(h:j7 w base v ts)(h0:0<ts.length): ∃g cap,v= .slice (some (zd g)) ts.length cap∧base≤g∧g<w.heap.size∧
  ∀i,i<ts.length→w.cell? ⟨g,0+i*2,none⟩=some (za (ts.getD i (0,false)).1)∧w.cell? ⟨g,0+i*2+1,none⟩=some (.bool (ts.getD i (0,false)).2):=by
 have h':w.ownsRow base 176 2 v ts.length (qN ts):=h;rcases h.2 with⟨_,e⟩|⟨g,cap,cur,rfl,hg,hh,_⟩
 ·omega
 ·refine⟨g,cap,rfl,hg,(gLt hh),fun i hi=>?_⟩;obtain⟨e1,e2⟩:=Xv ts i hi;rw[Nat.zero_add];refine⟨?_,?_⟩
  ·exact(World.ownsRow.cellAt h' (i*2) (by omega)).trans e1
  ·exact(World.ownsRow.cellAt h' (i*2+1) (by omega)).trans e2
theorem Tryz.infoG:(Tryz.prog.info? 176).map (fun i=>(i.zero,i.size,i.bytes))=some (some (.agg #[za 0,.bool false]),2,16):=by kernel_rfl
theorem NQ {o:Oper}{a:Act}{w:World}{K:Act→World→Prop}{Q:Exit→Act→World→Prop}(s x:Operand)
  (ho:o.op= .call {callee:= .builtin .append,args:= #[s,x],argTypes:= #[169,169]}) (base:Nat) (v:Value) (ts:List (Int×Bool)) (hs:a.eval s=v) (hown:j7 w base v ts)
  (b c:Nat) (p:Int×Bool) (hx:a.eval x= .slice (some (zd b)) 1 c) (hc:w.heap[b]?=some (.cells #[za p.1,.bool p.2] 176 (0,0))) (hk:ts.length+1≤2097152) (hbase:base≤w.heap.size)
  (h: ∀v' w',j7 w' base v' (ts++ [p])→w.grownBy w' v.ownBlock→K (a.put o.dst v') w'):o.wp Tryz.prog a w K Q:=by
 obtain⟨i,hi,hz0,hz1,hz2⟩:=info_parts Tryz.infoG;refine wp_append_own w s x 169 ho base 176 i _ 2 16 Tryz.underlying169 hi hz0 hz1 hz2 rfl (by omega) v ts.length _ hs hown (zd b) 1 c [za p.1,.bool p.2] hx rfl ?_ ?_ (by unfold maxLen;omega) (by omega) hbase ?_
 ·intro j u hj;have hj2:j<2:=by have:=(List.getElem?_eq_some_iff.1 hj).1;simpa using this
  rw[Go.WideShapes.add_plain,Nat.zero_add];obtain⟨t0,t1,_,_⟩:=zn hc
  match j,hj2 with
  |0,_=>simp at hj;subst hj;exact t0
  |1,_=>simp at hj;subst hj;exact t1
 ·intro u hu;simp at hu;rcases hu with rfl|rfl<;>rfl
 ·intro v' w' h1 h2 _;exact h v' w' (by unfold j7;rw[List.length_append,acD];exact h1) h2
theorem zi.grown {w w':World}{base:Nat}{e:TypeId}{v:Value}{xs:List Int}{row:Option Nat}(h:zi w base e v xs)(hg:w.grownBy w' row)(hr: ∀g,row=some g→v.ownBlock≠some g):zi w' base e v xs:=by
 obtain⟨h1,h2⟩:=h;refine⟨h1,?_⟩;rcases h2 with h2|⟨g,cap,cur,hv,hb,hh,r⟩
 ·exact Or.inl h2
 ·refine Or.inr ⟨g,cap,cur,hv,hb,?_,r⟩;rw[hg.block g (gLt hh) (fun e=>hr g e.symm (by rw[hv];rfl))];exact hh
theorem j7.grown {w w':World}{base:Nat}{v:Value}{xs:List (Int×Bool)}{row:Option Nat}(h:j7 w base v xs)(hg:w.grownBy w' row)(hr: ∀g,row=some g→v.ownBlock≠some g):j7 w' base v xs:=by
 obtain⟨h1,h2⟩:=h;refine⟨h1,?_⟩;rcases h2 with h2|⟨g,cap,cur,hv,hb,hh,r⟩
 ·exact Or.inl h2
 ·refine Or.inr ⟨g,cap,cur,hv,hb,?_,r⟩;rw[hg.block g (gLt hh) (fun e=>hr g e.symm (by rw[hv];rfl))];exact hh
theorem j7.elem {w:World}{base:Nat}{v:Value}{ts:List (Int×Bool)}{g:Nat}(h:j7 w base v ts)(hg:v.ownBlock=some g): ∃cur,w.heap[g]?=some (.cells cur 176 (0,0)):=by
 obtain⟨_,h2⟩:=h;rcases h2 with⟨rfl,_⟩|⟨g',cap,cur,rfl,_,hh,_⟩
 ·cases hg
 ·cases hg;exact⟨cur,hh⟩
theorem j7.apart {w:World}{base base':Nat}{v u:Value}{ts:List (Int×Bool)}{xs:List Int}(h:j7 w base v ts)(k:zi w base' 5 u xs): ∀g,v.ownBlock=some g→u.ownBlock≠some g:=fun g hg hu=>by
 obtain⟨c1,e1⟩:=h.elem hg
 obtain⟨c2,e2⟩:=k.elem hu
 rw[e1] at e2
 simp only[Option.some.injEq,Obj.cells.injEq] at e2
 exact absurd e2.2.1 (by decide)
theorem Chg.ofGrown0 {w w':World}{row:Option Nat}{B:Nat}(h:w.grownBy w' row)(hr: ∀k,row=some k→B≤k):Chg B w.heap.size w w':=Chg.ofGrown h (fun k e hk=>⟨hr k e,hk⟩)
theorem XY {ops:Array Oper}{rest:List Oper}{o:Oper}{a:Act}{w:World}{Q:Exit→Act→World→Prop}(hgd:o.guard=none)(s x:Operand)
  (ho:o.op= .call {callee:= .builtin .append,args:= #[s,x],argTypes:= #[22,22]})
  (base:Nat) (sv:Value) (xs:List Int) (hs:a.eval s=sv) (hO:zi w base 5 sv xs) (hbase:base≤w.heap.size) (lo hi:Nat) (xv:Value) (ys:List Int) (hx:a.eval x=xv) (hv:zr w lo hi .u8 xv ys) (hy:0<ys.length) (hl:xs.length+ys.length≤1048576)
  (h: ∀v' w',zi w' base 5 v' (xs++ys)→w.grownBy w' sv.ownBlock→wpList Tryz.prog ops Q rest (a.put o.dst v') w'):wpList Tryz.prog ops Q (o::rest) a w:=by
 refine wpList_plain hgd fun K hK=>?_;obtain⟨i,hi,hz0,hz1,hz2⟩:=info_parts Tryz.infoU1;obtain⟨ao,cap,rfl,_,_,hcell⟩:=hv;obtain⟨b,off,rfl,hc⟩: ∃b off,ao=some ⟨b,off,none⟩∧ ∀i,i<ys.length→w.cell? ⟨b,off+i,none⟩=some (zb (ys.getD i 0)):=by
  rcases hcell with e|⟨b,off,e,_,_,h3⟩
  ·rw[e] at hy;simp at hy
  ·exact⟨b,off,e,h3⟩
 have HNW: ∀j u,(ys.map (Value.int .u8))[j]?=some u→w.cell? ((⟨b,off,none⟩:Addr).add j)=some u:=by
  intro j u hj;have hjl:j<ys.length:=by have:=(List.getElem?_eq_some_iff.1 hj).1;simpa using this
  rw[Addr.add_mid,hc j hjl,←hj];simp[List.getD_eq_getElem?_getD,hjl]
 have hrow:w.ownsRow base 5 1 sv xs.length (xs.map (Value.int .u8)):=hO;refine wp_append_own _ s x 22 ho base 5 i (zb 0) 1 1 Tryz.underlying22 hi hz0 hz1 hz2 rfl (by decide) sv xs.length (xs.map (Value.int .u8)) hs hrow ⟨b,off,none⟩ ys.length cap (ys.map (Value.int .u8)) hx (by simp) HNW (ints_oneCell _ _) (by unfold maxLen;omega) (by omega) hbase ?_;intro v' w2 hown hgrow _;refine hK _ _ (h v' w2 ?_ hgrow)
 unfold zi;rw[List.length_append,List.map_append];exact hown
end Go.Proofs.YtacjklochmelfaaGreatDoor
