import Derived.Test.YtacjklochmelfaaGreatDoorSettle
import Derived.Test.YtacjklochmelfaaGreatDoorCells2
import Derived.Test.YtacjklochmelfaaGreatDoorDiskP
import Derived.Deep.RegionWith
import Derived.Test.YtacjklochmelfaaGreatDoorSurvLast
import Derived.Test.YtacjklochmelfaaGreatDoorSpecEsc
namespace Go.Proofs.YtacjklochmelfaaGreatDoor
open Go.RowKit
set_option maxRecDepth 100000
set_option maxHeartbeats 16000000
def ZA (ps:List Wr) (at':Int) (dflt:List Int):List Int:=ps.foldl (fun acc p=>if p.1=at' then p.2 else acc) dflt
theorem Z1 (ps:List Wr)(a:Int)(dflt:List Int)(h: ∀j,j<ps.length→(ps.getD j (0,[])).1≠a):ZA ps a dflt=dflt:=by
 induction ps generalizing dflt with
 |nil=>rfl
 |cons p r ih=>
  have h0:p.1≠a:=by simpa using h 0 (by simp)
  have hr:=ih dflt (fun j hj=>by simpa using h (j+1) (by simpa using hj));simp only[ZA,List.foldl_cons,if_neg h0] at*;exact hr
theorem QH (xs ys:List Wr)(a:Int)(dflt:List Int):ZA (xs++ys) a dflt=ZA ys a (ZA xs a dflt):=by simp[ZA]
theorem Ub (ps:List Wr)(a:Int)(dflt:List Int)(k:Nat)(hk:k<ps.length)(he:(ps.getD k (0,[])).1=a)(h: ∀j,k<j→j<ps.length→(ps.getD j (0,[])).1≠a):ZA ps a dflt=(ps.getD k (0,[])).2:=by
 have e:ps=ps.take (k+1)++ps.drop (k+1):=(List.take_append_drop _ _).symm;have e0:ZA ps a dflt=ZA (ps.drop (k+1)) a (ZA (ps.take (k+1)) a dflt):=by rw[←QH,←e]
 rw[e0,Z1 (ps.drop (k+1)),List.take_succ_eq_append_getElem hk,QH]
 ·have e2:ps.getD k (0,[])=ps[k]:=by simp[List.getD_eq_getElem?_getD,hk]
  rw[e2] at he⊢;simp[ZA,he]
 ·intro j hj;rw[List.length_drop] at hj;have:=h (k+1+j) (by omega) (by omega);simpa [List.getD_eq_getElem?_getD,List.getElem?_drop] using this
def see (d:Dsk) (a:Nat):List Int:=ZA d.pend (a:Int) ((d.dur.drop (a*64)).take 64)
theorem NI {d:Dsk}(hv:qV d)(a:Nat)(h:a<d.dur.length/64):(see d a).length=64:=by
 unfold see;have h0:((d.dur.drop (a*64)).take 64).length=64:=by
  rw[List.length_take,List.length_drop];omega
 have hg:=hv.2.2.2.2;generalize (d.dur.drop (a*64)).take 64=x at*;generalize d.pend=ps at*
 induction ps generalizing x with
 |nil=>exact h0
 |cons p r ih=>
  have hp:p.2.length=64:=by have:=(hg 0 (by simp)).2.2;simpa using this
  have hr: ∀i,i<r.length→Good (d.dur.length/64) (r.getD i (0,[])):=fun i hi=>by have:=hg (i+1) (by simpa using hi);simpa using this
  simp only[ZA,List.foldl_cons];split
  ·exact ih p.2 hp hr
  ·exact ih x h0 hr
theorem KK (w:World){base p:Nat}{d:Dsk}(a:Nat)(h:Dev w base p d)(ha:a<d.dur.length/64)(hps:p<w.heap.size):
  Calls Tryz.prog 66 #[.pointer (some (zd p)),za a] w fun e w'=>e= .returned (.agg ((see d a).map (Value.int .u8)).toArray)∧Chg 0 0 w w':=by
 obtain⟨gD,po,m,cap,hv,hp,hb,hgD,rfl,hdur,hpend⟩:=h.rows;obtain⟨c0,c1,_,_⟩:=zn hb;have hn:=hv.2.2.1;have hm:=hv.2.2.2.1;go_enter Tryz.func66,Tryz.ntmps66;go_wp2;generalize hW:World.alloc w _=W0;have T0:W0.there w.heap.size 0 64:=by rw[←hW];exact Jo w _ _ 64 rfl
 have C0:Chg 0 0 w W0:=by rw[←hW];exact Chg.alloc (Chg.refl 0 0 w) _
 clear hW;have c0:=C0.cell c0 (by omega);have c1:=C0.cell c1 (by omega);have u1:=Tryz.underlying72;have HD:Hid (∀j,j<d.dur.length→W0.cell? ⟨gD,j,none⟩=some (zb (d.dur.getD j 0))):=fun j hj=>C0.cell (hdur j hj) (by omega);have HP:Hid (0<d.pend.length→ ∃gP,po=some (zd gP)∧base≤gP∧ ∀j v,(flat d.pend)[j]?=some v→W0.cell? ⟨gP,j,none⟩=some v):=by
  intro h0;obtain⟨gP,e,h1,h2⟩:=hpend h0;exact⟨gP,e,h1,fun j v hj=>C0.cell (h2 j v hj) (by omega)⟩
 have HV:Hid (qV d):=hv;have HL:=NI hv a ha;have HLen:Hid ((see d a).length=64):=HL;have HC0:Hid (Chg 0 0 w W0):=C0;have HT0:Hid (W0.there w.heap.size 0 64):=T0;clear hdur hpend hb h hv HL C0 T0;have fin: ∀cs:List Value,cs=(see d a).map (Value.int .u8)→(loadVar 72 (zd w.heap.size)).run Tryz.prog (W0.setCells w.heap.size 0 cs)= .ok (.agg ((see d a).map (Value.int .u8)).toArray) (W0.setCells w.heap.size 0 cs):=by
  intro cs hcs;have hl:cs.length=64:=by rw[hcs];simpa using HLen.out
  rw[←hcs];exact run_loadVar_mid _ _ _ _ cs _ (World.rangeAt_setCells_same _ _ _ _ (by rw[hl];exact HT0.out)) u1 rfl (by rw[hl];kernel_rfl)
 have Hfin:Hid (∀cs:List Value,cs=(see d a).map (Value.int .u8)→(loadVar 72 (zd w.heap.size)).run Tryz.prog (W0.setCells w.heap.size 0 cs)= .ok (.agg ((see d a).map (Value.int .u8)).toArray) (W0.setCells w.heap.size 0 cs)):=fin;have HChg:Hid (∀cs:List Value,Chg 0 0 w (W0.setCells w.heap.size 0 cs)):=fun cs=>HC0.out.step (Chg.setCells w.heap.size cs 0 W0) (Or.inr (Or.inl (Nat.le_refl _)));clear fin HC0
 go_loop [5] (fun i=> ∃k:Nat,k≤d.pend.length∧i=za ((k:Int)-1)∧ ∀j,k≤j→j<d.pend.length→(d.pend.getD j (0,[])).1≠(a:Int)) (fun i=>(intOf i+1).toNat)
 case atStart=>exact⟨d.pend.length,Nat.le_refl _,rfl,by intro j h1 h2;omega⟩
 case round=>
  obtain⟨k,hk,rfl,hno⟩:=hrel;have HNo:Hid (∀j,k≤j→j<d.pend.length→(d.pend.getD j (0,[])).1≠(a:Int)):=hno;clear hno
  cases k with
  |zero=>
   have hsee:see d a=(d.dur.drop (a*64)).take 64:=by unfold see;exact Z1 _ _ _ (fun j hj=>HNo.out j (by omega) hj)
   obtain⟨cs,hcs⟩: ∃cs,cs=(see d a).map (Value.int .u8):=⟨_,rfl⟩;have L1:cs.length=64:=by rw[hcs];simpa using HLen.out
   have L2: ∀v∈cs,v.oneCell'=true:=by rw[hcs];exact ints_oneCell _ _
   have R0:W0.rangeAt gD (a*64) cs:=by
    intro j v hj;have hj64:j<64:=by have:=(List.getElem?_eq_some_iff.1 hj).1;omega
    rw[HD.out (a*64+j) (by omega),←hj,hcs,hsee,List.getElem?_map,List.getElem?_take,if_pos hj64,List.getElem?_drop];simp only[List.getD_eq_getElem?_getD];rw[List.getElem?_eq_getElem (show a*64+j<d.dur.length by omega)];rfl
   have HR0:Hid (W0.rangeAt gD (a*64) cs):=R0;have HL2:Hid (∀v∈cs,v.oneCell'=true):=L2;have HL1:Hid (cs.length=64):=L1;have e64:cs.toArray.size=64:=by simpa using L1
   have HT1:Hid (W0.there w.heap.size 0 cs.toArray.size):=by show World.there _ _ _ _;rw[e64];exact HT0.out
   have HI1:Hid ((Tryz.prog.info? 72).map (·.size)=some cs.toArray.size):=by show _=_;rw[e64];kernel_rfl
   clear e64;have hfi:=Hfin.out cs hcs;have Hfi:Hid (_=_):=hfi;have hcg:=HChg.out cs;clear R0 L1 L2 hcs hsee HD HP HV HNo hfi Hfin HChg;have hai:(a:Int)<((d.dur.length/64:Nat):Int):=by omega
   go_wp2_with (first
    |(refine wpList_load_mid rfl 72 (.tmp 39) rfl gD (a*64) rfl cs _ HR0.out u1 rfl (by rw[HL1.out];kernel_rfl) ?_)
    |(refine wpList_store_mid rfl 72 (.tmp 4) (.tmp 40) rfl w.heap.size 0 cs.toArray rfl rfl HT1.out HI1.out (all_oneCell_toArray HL2.out) ?_))
   exact bodyPost_ret (JI Tryz.results66 rfl Hfi.out) rfl ⟨rfl,hcg⟩
  |succ k=>
   obtain⟨gP,rfl,hgP,hcel⟩:=HP.out (by omega);have e0:=Qw d.pend HV.out.2.2.2.2 k 0 (by omega) (by omega);have hq:W0.cell? ⟨gP,k*65,none⟩=some (za (d.pend.getD k (0,[])).1):=hcel (k*65) _ (by rw[show k*65=k*65+0 from rfl,e0];rfl);have hik:(k:Int)<(d.pend.length:Int):=by omega
   rw[show((k+1:Nat):Int)-1=(k:Int) from by omega];by_cases hit:(d.pend.getD k (0,[])).1=(a:Int)
   ·have hsee:see d a=(d.pend.getD k (0,[])).2:=by unfold see;exact Ub _ _ _ k (by omega) hit (fun j h1 h2=>HNo.out j (by omega) h2)
    obtain⟨cs,hcs⟩: ∃cs,cs=(see d a).map (Value.int .u8):=⟨_,rfl⟩;have L1:cs.length=64:=by rw[hcs];simpa using HLen.out
    have L2: ∀v∈cs,v.oneCell'=true:=by rw[hcs];exact ints_oneCell _ _
    have R0:W0.rangeAt gP (k*65+1) cs:=by
     intro j v hj;have hj64:j<64:=by have:=(List.getElem?_eq_some_iff.1 hj).1;omega
     rw[Nat.add_assoc];refine hcel _ _ ?_;rw[Qw d.pend HV.out.2.2.2.2 k (1+j) (by omega) (by omega),←hj,hcs,hsee,Nat.add_comm 1 j];rfl
    have HR0:Hid (W0.rangeAt gP (k*65+1) cs):=R0;have HL2:Hid (∀v∈cs,v.oneCell'=true):=L2;have HL1:Hid (cs.length=64):=L1;have e64:cs.toArray.size=64:=by simpa using L1
    have HT1:Hid (W0.there w.heap.size 0 cs.toArray.size):=by show World.there _ _ _ _;rw[e64];exact HT0.out
    have HI1:Hid ((Tryz.prog.info? 72).map (·.size)=some cs.toArray.size):=by show _=_;rw[e64];kernel_rfl
    clear e64;have hfi:=Hfin.out cs hcs;have Hfi:Hid (_=_):=hfi;have hcg:=HChg.out cs;have hb1:((d.pend.getD k (0,[])).1==(a:Int))=true:=by rw[beq_iff_eq];exact hit
    generalize (d.pend.getD k (0,[])).1=q at*;clear R0 L1 L2 hcs hsee HD HP HV HNo hfi Hfin HChg hcel e0 hit;go_wp2_with (first
     |(refine wpList_load_mid rfl 72 (.tmp 32) rfl gP (k*65+1) rfl cs _ HR0.out u1 rfl (by rw[HL1.out];kernel_rfl) ?_)
     |(refine wpList_store_mid rfl 72 (.tmp 4) (.tmp 33) rfl w.heap.size 0 cs.toArray rfl rfl HT1.out HI1.out (all_oneCell_toArray HL2.out) ?_))
    exact bodyPost_ret (JI Tryz.results66 rfl Hfi.out) rfl ⟨rfl,hcg⟩
   ·have hb1:((d.pend.getD k (0,[])).1==(a:Int))=false:=by rw[beq_eq_false_iff_ne];exact hit
    have HN2:Hid (∀j,k≤j→j<d.pend.length→(d.pend.getD j (0,[])).1≠(a:Int)):=by
     intro j h1 h2;by_cases e:j=k
     ·subst e;exact hit
     ·exact HNo.out j (by omega) h2
    generalize (d.pend.getD k (0,[])).1=q at*;clear HD HP HV HNo Hfin HChg hcel e0 hit HLen HT0;go_wp2;go_round
    case rel=>exact⟨k,by omega,by go_num,HN2.out⟩
    case measure=>simp[intOf]
theorem acJ (w:World){base p lo hi:Nat}{d:Dsk}{b:Value}(a:Int)(ys:List Int)(h:Dev w base p d)(hb:zr w lo hi .u8 b ys)
  (h0:600≤d.pend.length∨a<0∨((d.dur.length/64:Nat):Int)≤a∨ys.length≠64):
  Calls Tryz.prog 89 #[.pointer (some (zd p)),za a,b] w fun e w'=>e= .returned (.bool false)∧w'=w:=by
 have Hh:Hid (Dev w base p d):=h;obtain⟨gD,pv,hv,hp,hbx,hdr,hpr⟩:=h;obtain⟨po,pn,pc,rfl⟩:=zx hpr;obtain⟨c0,c1,f0,f1⟩:=zn hbx;have hpn:pn=d.pend.length:=by
  rcases hpr.2 with⟨e,h0⟩|⟨g,cap,cur,e,_⟩
  ·cases e;exact h0.symm
  ·simp only[Value.slice.injEq] at e;exact e.2.1
 subst hpn;have hm:=hv.2.2.2.1;obtain⟨bo,bcap,rfl,hbl,_,_⟩:=hb;clear hbx hdr hpr hv;by_cases h1:600≤d.pend.length
 ·go_enter Tryz.func89,Tryz.ntmps89;go_wp2;go_ret;exact⟨rfl,rfl⟩
 ·by_cases h2:0≤a∧a<((d.dur.length/64:Nat):Int)
  ·have h3:ys.length≠64:=by omega
   have hne:((ys.length:Int) !=64)=true:=by simp;omega
   clear h0;go_enter Tryz.func89,Tryz.ntmps89;go_wp2_with fail;refine(YY _ a Hh.out h2.1 h2.2).mono ?_;rintro e w2 ⟨rfl,rfl⟩;go_wp2;go_ret;exact⟨rfl,rfl⟩
  ·clear h0;go_enter Tryz.func89,Tryz.ntmps89;go_wp2_with fail;refine(adI _ a Hh.out (by omega)).mono ?_;rintro e w2 ⟨rfl,rfl⟩;go_wp2;go_ret;exact⟨rfl,rfl⟩
abbrev Opx:Type:=Int×Int×List Int
abbrev Opx.zero:Opx:=(0,0,[])
def ju (w:World) (lo hi:Nat) (v:Value) (os:List Opx):Prop:=
 ∃ao cap,v= .slice ao os.length cap∧os.length≤9223372036854775807∧os.length≤cap∧
  (os= []∨ ∃b off,ao=some ⟨b,off,none⟩∧lo≤b∧b<hi∧ ∀i,i<os.length→ ∃dv,
   w.cell? ⟨b,off+i*3,none⟩=some (za (os.getD i Opx.zero).1)∧w.cell? ⟨b,off+i*3+1,none⟩=some (za (os.getD i Opx.zero).2.1)∧
   w.cell? ⟨b,off+i*3+2,none⟩=some dv∧zr w lo hi .u8 dv (os.getD i Opx.zero).2.2)
theorem ju.chg {w w':World}{lo hi l r:Nat}{v:Value}{os:List Opx}(h:ju w lo hi v os)(c:Chg l r w w')(d:hi≤l∨r≤lo∨r≤l):ju w' lo hi v os:=by
 obtain⟨ao,cap,hv,hl,hc,h⟩:=h;refine⟨ao,cap,hv,hl,hc,?_⟩;rcases h with h|⟨b,off,ha,h1,h2,h3⟩
 ·exact Or.inl h
 ·refine Or.inr ⟨b,off,ha,h1,h2,fun i hi=>?_⟩;obtain⟨dv,c1,c2,c3,vw⟩:=h3 i hi;exact⟨dv,c.cell c1 (by omega),c.cell c2 (by omega),c.cell c3 (by omega),vw.chg c d⟩
theorem ju.nil (w:World)(lo hi:Nat):ju w lo hi (zc) []:=⟨none,0,rfl,by simp,by simp,Or.inl rfl⟩
structure zT (w:World)(base:Nat)(eO eB:TypeId)(v:Value)(os:List Opx)(cells:List Value)(dvs:Nat→Value):Prop where
 row:w.ownsRow base eO 3 v os.length cells
 at0: ∀i,i<os.length→cells[i*3]?=some (za (os.getD i Opx.zero).1)
 at1: ∀i,i<os.length→cells[i*3+1]?=some (za (os.getD i Opx.zero).2.1)
 at2: ∀i,i<os.length→cells[i*3+2]?=some (dvs i)
 data: ∀i,i<os.length→zi w base eB (dvs i) (os.getD i Opx.zero).2.2
 apart: ∀i j g,i<j→j<os.length→(dvs i).ownBlock=some g→(dvs j).ownBlock≠some g
theorem zT.chg {w w':World}{base l r:Nat}{eO eB:TypeId}{v:Value}{os:List Opx}{cells:List Value}{dvs:Nat→Value}(h:zT w base eO eB v os cells dvs)(c:Chg l r w w')
  (d: ∀g,v.ownBlock=some g→g<l∨r≤g) (d': ∀i g,i<os.length→(dvs i).ownBlock=some g→g<l∨r≤g):zT w' base eO eB v os cells dvs:=by
 refine⟨?_,h.at0,h.at1,h.at2,fun i hi=>(h.data i hi).chg c (d' i · hi),h.apart⟩;obtain⟨h1,h2⟩:=h.row;refine⟨h1,?_⟩;rcases h2 with h2|⟨g,cap,cur,hv,hg,hh,r⟩
 ·exact Or.inl h2
 ·refine Or.inr ⟨g,cap,cur,hv,hg,?_,r⟩;rw[c.block g (gLt hh) (d g (by rw[hv];rfl))];exact hh
theorem zT.view {w:World}{base:Nat}{eO eB:TypeId}{v:Value}{os:List Opx}{cells:List Value}{dvs:Nat→Value}(h:zT w base eO eB v os cells dvs)(hl:os.length≤9223372036854775807)
  (hd: ∀i,i<os.length→(os.getD i Opx.zero).2.2.length≤9223372036854775807) {hi:Nat} (hb: ∀g,v.ownBlock=some g→g<hi) (hb': ∀i g,i<os.length→(dvs i).ownBlock=some g→g<hi):ju w base hi v os:=by
 have hrow:=h.row;rcases hrow.2 with⟨rfl,h0⟩|⟨g,cap,cur,rfl,hg,hh,hc,_⟩
 ·obtain rfl:os= []:=List.eq_nil_of_length_eq_zero h0;exact ju.nil _ _ _
 ·refine⟨_,cap,rfl,hl,hc,Or.inr ⟨g,0,rfl,hg,hb g rfl,fun i hi=>⟨dvs i,?_,?_,?_,(h.data i hi).view (hd i hi) (hb' i · hi)⟩⟩⟩
  ·rw[Nat.zero_add,World.ownsRow.cellAt hrow (i*3) (by omega)];exact h.at0 i hi
  ·rw[Nat.zero_add,World.ownsRow.cellAt hrow (i*3+1) (by omega)];exact h.at1 i hi
  ·rw[Nat.zero_add,World.ownsRow.cellAt hrow (i*3+2) (by omega)];exact h.at2 i hi
theorem Yu {w w':World}{base:Nat}{e:TypeId}{size:Nat}{v:Value}{n:Nat}{xs:List Value}(h:w.ownsRow base e size v n xs)(c:Chg 0 0 w w'):w'.ownsRow base e size v n xs:=by
 obtain⟨h1,h2⟩:=h;refine⟨h1,?_⟩;rcases h2 with h2|⟨g,cap,cur,hv,hg,hh,r⟩
 ·exact Or.inl h2
 ·refine Or.inr ⟨g,cap,cur,hv,hg,?_,r⟩;rw[c.block g (gLt hh) (by omega)];exact hh
theorem Dev.chg0 {w w':World}{base p:Nat}{d:Dsk}(h:Dev w base p d)(c:Chg 0 0 w w'):Dev w' base p d:=by
 obtain⟨gD,pv,h1,h2,h3,h4,h5⟩:=h;exact⟨gD,pv,h1,h2,(c.block p (gLt h3) (by omega)).trans h3,Yu h4 c,Yu h5 c⟩
theorem Chg.into {base:Nat}{a b c:World}(h:Chg 0 0 a b)(k:Chg base b.heap.size b c):Chg base a.heap.size a c:=
 ⟨k.os.trans h.os,k.tape.trans h.tape,k.output.trans h.output,Nat.le_trans h.size k.size,fun i hi ho=>(k.block i (Nat.lt_of_lt_of_le hi h.size) (Or.inl (by omega))).trans (h.block i hi (by omega))⟩
theorem Chg.onto {base:Nat}{a b c:World}(h:Chg base a.heap.size a b)(k:Chg base b.heap.size b c):Chg base a.heap.size a c:=
 ⟨k.os.trans h.os,k.tape.trans h.tape,k.output.trans h.output,Nat.le_trans h.size k.size,fun i hi ho=>(k.block i (Nat.lt_of_lt_of_le hi h.size) (Or.inl (by omega))).trans (h.block i hi ho)⟩
def opD (d:Dsk) (o:Opx):Option Dsk:=
 if o.1=1 then(if d.pend.length<600∧0≤o.2.1∧o.2.1<((d.dur.length/64:Nat):Int)∧o.2.2.length=64 then some ⟨d.dur,d.pend++ [(o.2.1,o.2.2)]⟩ else none)
 else if o.1=2 then(if o.2.1=0∧o.2.2.length=0 then some (setD (fun _=>true) d) else none) else none
theorem XA {w:World}{s:Nat}{a b c:Value}{t:TypeId}(h:w.heap[s]?=some (.cells #[a,b,c] t (0,0))):
  w.cell? (zd s)=some a∧w.cell? ⟨s,1,none⟩=some b∧w.cell? ⟨s,2,none⟩=some c:=by
 simp[World.cell?,h]
def Did (w w':World) (base p:Nat) (r:Option Dsk) (e:Ending):Prop:=
 ∃b:Bool,e= .returned (.bool b)∧Chg base w.heap.size w w'∧((b=true∧ ∃d',r=some d'∧Dev w' base p d')∨(b=false∧r=none))
theorem Did.yes {w w':World}{base p:Nat}{r:Option Dsk}{e:Ending}(d':Dsk)(hr:r=some d')(he:e= .returned (.bool true))(hd:Dev w' base p d')(hc:Chg base w.heap.size w w'):Did w w' base p r e:=⟨true,he,hc,Or.inl ⟨rfl,d',hr,hd⟩⟩
theorem Did.no {w w':World}{base p:Nat}{r:Option Dsk}{e:Ending}(hr:r=none)(he:e= .returned (.bool false))(hc:Chg base w.heap.size w w'):Did w w' base p r e:=⟨false,he,hc,Or.inr ⟨rfl,hr⟩⟩
theorem Va (w:World){base p lo hi:Nat}{d:Dsk}{dv:Value}(q a:Int)(ys:List Int)(h:Dev w base p d)(hb:zr w lo hi .u8 dv ys)(hlo:hi≤base):
  Calls Tryz.prog 55 #[.pointer (some (zd p)),.agg #[za q,za a,dv]] w fun e w'=>Did w w' base p (opD d (1,a,ys)) e:=by
 have B:=zh w (.cells #[za q,za a,dv] 65);have C:Chg 0 0 w (w.alloc (.cells #[za q,za a,dv] 65)):=Chg.alloc (Chg.refl 0 0 w) _;obtain⟨k0,k1,k2⟩:=XA B;have hv:=hb.chg C (by omega);have hdev:=h.chg0 C;obtain⟨vo,vc,rfl,_,_,_⟩:=hb;by_cases hok:d.pend.length<600∧0≤a∧a<((d.dur.length/64:Nat):Int)∧ys.length=64
 ·have HF:Hid (opD d (1,a,ys)=some ⟨d.dur,d.pend++ [(a,ys)]⟩):=by show _=_;unfold opD;rw[if_pos rfl,if_pos hok]
  obtain⟨o1,o2,o3,o4⟩:=hok;obtain⟨an,rfl⟩:=Int.eq_ofNat_of_zero_le o2;have hW:=abn _ an ys hdev hv hlo o4 (by omega) o1;clear h B o2 o3 hdev hv;have HL:Hid _:=o4;clear o4;go_enter Tryz.func55,Tryz.ntmps55;go_wp2_with fail;refine hW.mono ?_;rintro e w2 ⟨rfl,hdev2,hc⟩;have HC:Hid _:=C.into hc;clear hW hc C k0 k1 k2;go_wp2;go_ret;exact Did.yes _ HF.out rfl hdev2 HC.out
 ·have HF:Hid (opD d (1,a,ys)=none):=by show _=_;unfold opD;rw[if_pos rfl,if_neg hok]
  have hW:=acJ _ a ys hdev hv (by omega);have HC:Hid (Chg base w.heap.size w (w.alloc (.cells #[za q,za a,.slice vo ys.length vc] 65))):=C.into (Chg.refl _ _ _);clear h B hdev hv hok C;go_enter Tryz.func55,Tryz.ntmps55;go_wp2_with fail;refine hW.mono ?_;rintro e w2 ⟨rfl,rfl⟩;clear hW k0 k1 k2;go_wp2;go_ret;exact Did.no HF.out rfl HC.out
theorem K9 (w:World){base p lo hi:Nat}{d:Dsk}{dv:Value}(q a:Int)(ys:List Int)(h:Dev w base p d)(hb:zr w lo hi .u8 dv ys):
  Calls Tryz.prog 56 #[.pointer (some (zd p)),.agg #[za q,za a,dv]] w fun e w'=>Did w w' base p (opD d (2,a,ys)) e:=by
 have B:=zh w (.cells #[za q,za a,dv] 65);have C:Chg 0 0 w (w.alloc (.cells #[za q,za a,dv] 65)):=Chg.alloc (Chg.refl 0 0 w) _;have hdev:=h.chg0 C;obtain⟨vo,vc,rfl,_,_,_⟩:=hb;obtain⟨k0,k1,k2⟩:=XA B;have HC0:Hid (Chg base w.heap.size w (w.alloc (.cells #[za q,za a,.slice vo ys.length vc] 65))):=C.into (Chg.refl _ _ _);by_cases ha:a=0
 ·have ha':(a !=0)=false:=by rw[ha];rfl
  by_cases hy:ys.length=0
  ·have hy':((ys.length:Int) !=0)=false:=by rw[hy];rfl
   have HF:Hid (opD d (2,a,ys)=some (setD (fun _=>true) d)):=by show _=_;unfold opD;rw[if_neg (show¬(2:Int)=1 by decide),if_pos rfl,if_pos ⟨ha,hy⟩]
   have hW:=Yk _ hdev;clear h B hdev ha hy HC0;go_enter Tryz.func56,Tryz.ntmps56;go_wp2_with fail;refine hW.mono ?_;rintro e w2 ⟨rfl,hdev2,hc⟩;have HC:Hid _:=C.into hc;clear hW hc C k0 k1 k2;go_wp2;go_ret;exact Did.yes _ HF.out rfl hdev2 HC.out
  ·have hy':((ys.length:Int) !=0)=true:=by simp only[bne_iff_ne,ne_eq];omega
   have HF:Hid (opD d (2,a,ys)=none):=by show _=_;unfold opD;rw[if_neg (show¬(2:Int)=1 by decide),if_pos rfl,if_neg (fun h=>hy h.2)]
   clear h B hdev ha hy C;go_enter Tryz.func56,Tryz.ntmps56;go_wp2;go_ret;exact Did.no HF.out rfl HC0.out
 ·have ha':(a !=0)=true:=by simp only[bne_iff_ne,ne_eq];exact ha
  have HF:Hid (opD d (2,a,ys)=none):=by show _=_;unfold opD;rw[if_neg (show¬(2:Int)=1 by decide),if_pos rfl,if_neg (fun h=>ha h.1)]
  clear h B hdev ha C;go_enter Tryz.func56,Tryz.ntmps56;go_wp2;go_ret;exact Did.no HF.out rfl HC0.out
theorem abf (f:Nat)(w:World):(binOp .eql 114 (.func (.func f) #[] #[]) .nilFunc).run Tryz.prog w= .ok (.bool false) w:=by
 have h:(Op.equal 114 (.func (.func f) #[] #[]) .nilFunc).run Tryz.prog w= .ok false w:=by
  unfold Op.equal Op.maxDepth;rw[Op.equalIn];simp[run_underlying Tryz.underlying114]
 simp[binOp,h]
theorem abe (w:World):(binOp .eql 114 .nilFunc .nilFunc).run Tryz.prog w= .ok (.bool true) w:=by
 have h:(Op.equal 114 .nilFunc .nilFunc).run Tryz.prog w= .ok true w:=by
  unfold Op.equal Op.maxDepth;rw[Op.equalIn];simp[run_underlying Tryz.underlying114]
 simp[binOp,h]
theorem abR (w:World){base p lo hi:Nat}{d:Dsk}{dv:Value}(q a:Int)(ys:List Int)(h:Dev w base p d)(hb:zr w lo hi .u8 dv ys)(hlo:hi≤base):
  Calls Tryz.prog 24 #[.pointer (some (zd p)),.agg #[za q,za a,dv]] w fun e w'=>Did w w' base p (opD d (q,a,ys)) e:=by
 have v0:=hb;obtain⟨vo,vc,rfl,_,_,_⟩:=hb;have hs1:=fun(w:World) (a:Addr) (m:Mode)=>run_store Tryz.prog w a Value.nilFunc m rfl;have hs2:=fun(w:World) (a:Addr) (m:Mode)=>run_store Tryz.prog w a (.func (.func 55) #[] #[]) m rfl;have hs3:=fun(w:World) (a:Addr) (m:Mode)=>run_store Tryz.prog w a (.func (.func 56) #[] #[]) m rfl;have C0:Chg 0 0 w ((w.alloc (.cells #[za q,za a,.slice vo ys.length vc] 65)).alloc (.cells #[.nilFunc,.func (.func 55) #[] #[],.func (.func 56) #[] #[]] 115)):=(Chg.alloc (Chg.refl 0 0 w) _).alloc _
 have HC0:Hid (Chg base w.heap.size w ((w.alloc (.cells #[za q,za a,.slice vo ys.length vc] 65)).alloc (.cells #[.nilFunc,.func (.func 55) #[] #[],.func (.func 56) #[] #[]] 115))):=C0.into (Chg.refl _ _ _);have he1:=abf;have he2:=abe;by_cases hq1:q=1
 ·subst hq1;have hdev:=h.chg0 C0.drew;have hv:=v0.chg C0.drew (by omega);have hD:=Va _ 1 a ys hdev hv hlo;have HD:Hid _:=hD;clear h hdev hv v0 hD HC0;go_enter Tryz.func24,Tryz.ntmps24;go_wp2;go_region_with (go_at_call 55;refine Calls.mono HD.out ?_;rintro e w2 ⟨b,rfl,hc,hr⟩)
  all_goals
   have HC:Hid _:=C0.drew.into hc
   have HR:Hid _:=hr
   clear hc hr HD
   go_wp2
   go_ret
   exact⟨b,rfl,HC.out,HR.out⟩
 by_cases hq2:q=2
 ·subst hq2;have hdev:=h.chg0 C0.drew;have hv:=v0.chg C0.drew (by omega);have hD:=K9 _ 2 a ys hdev hv;have HD:Hid _:=hD;clear h hdev hv v0 hD HC0;go_enter Tryz.func24,Tryz.ntmps24;go_wp2;go_region_with (go_at_call 56;refine Calls.mono HD.out ?_;rintro e w2 ⟨b,rfl,hc,hr⟩)
  all_goals
   have HC:Hid _:=C0.drew.into hc
   have HR:Hid _:=hr
   clear hc hr HD
   go_wp2
   go_ret
   exact⟨b,rfl,HC.out,HR.out⟩
 have HF:Hid (opD d (q,a,ys)=none):=by show _=_;unfold opD;rw[if_neg hq1,if_neg hq2]
 clear h v0 C0;by_cases hq0:q=0
 ·subst hq0;go_enter Tryz.func24,Tryz.ntmps24;go_wp2;go_ret;exact Did.no HF.out rfl HC0.out
 by_cases hneg:q<0
 ·go_enter Tryz.func24,Tryz.ntmps24;go_wp2;go_ret;exact Did.no HF.out rfl HC0.out
 ·have hge:q≥3:=by omega
  go_enter Tryz.func24,Tryz.ntmps24;go_wp2;go_ret;exact Did.no HF.out rfl HC0.out
def Zc:Dsk→List Opx→Option Dsk
 |d,[]=>some d
 |d,o::r=>(opD d o).bind fun d'=>Zc d' r
theorem Qa (d:Dsk)(a b:List Opx):Zc d (a++b)=(Zc d a).bind fun d'=>Zc d' b:=by
 induction a generalizing d with
 |nil=>rfl
 |cons o r ih=>
  simp only[List.cons_append,Zc]
  cases opD d o with
  |none=>rfl
  |some d'=>exact ih d'
theorem KR (d:Dsk)(os:List Opx)(k:Nat)(h:k<os.length):Zc d (os.take (k+1))=(Zc d (os.take k)).bind fun d'=>opD d' (os.getD k Opx.zero):=by
 have e:os.getD k Opx.zero=os[k]:=by simp[List.getD_eq_getElem?_getD,h]
 rw[List.take_succ_eq_append_getElem h,Qa,e];congr 1;funext d';simp only[Zc]
 cases opD d' os[k]<;>rfl
theorem abb (d:Dsk)(os:List Opx)(k:Nat)(h:Zc d (os.take k)=none):Zc d os=none:=by
 have:=Qa d (os.take k) (os.drop k);rw[List.take_append_drop,h] at this;exact this
def Za (os:List Opx) (limit:Int):List Opx:=if limit<0∨(os.length:Int)≤limit then os else os.take limit.toNat
def doD (d:Dsk) (os:List Opx) (limit:Int):Dsk:=
 if jg d=true∧os.length≤4000 then(Zc d (Za os limit)).getD Dsk.none else Dsk.none
theorem ju.take {w:World}{lo hi:Nat}{ao:Option Addr}{cap:Nat}{os:List Opx}(h:ju w lo hi (.slice ao os.length cap) os)(n:Nat)(hn:n≤os.length):ju w lo hi (.slice ao n cap) (os.take n):=by
 obtain⟨ao',cap',e,hl,hc,h⟩:=h
 cases e
 have hlen:(os.take n).length=n:=by rw[List.length_take];omega
 refine⟨ao,cap,by rw[hlen],by omega,by omega,?_⟩;rcases h with h|⟨b,off,ha,h1,h2,h3⟩
 ·left;rw[h];simp
 ·refine Or.inr ⟨b,off,ha,h1,h2,fun i hi=>?_⟩;rw[hlen] at hi;have e:(os.take n).getD i Opx.zero=os.getD i Opx.zero:=by
   simp only[List.getD_eq_getElem?_getD,List.getElem?_take];rw[if_pos hi]
  rw[e];exact h3 i (by omega)
theorem Kj (w:World){lo hi:Nat}{v:Value}{os:List Opx}(limit:Int)(h:ju w lo hi v os):
  Calls Tryz.prog 23 #[v,za limit] w fun e w'=> ∃v',e= .returned v'∧ju w lo hi v' (Za os limit)∧w'=w:=by
 have v0:=h;obtain⟨ao,cap,rfl,hl,hc,h⟩:=h;by_cases h1:limit<0
 ·have HV:Hid (ju w lo hi (.slice ao os.length cap) (Za os limit)):=by show ju _ _ _ _ _;unfold Za;rw[if_pos (Or.inl h1)];exact v0
  clear v0 h;go_enter Tryz.func23,Tryz.ntmps23;go_wp2;go_ret;exact⟨_,rfl,HV.out,rfl⟩
 ·by_cases h2:(os.length:Int)≤limit
  ·have HV:Hid (ju w lo hi (.slice ao os.length cap) (Za os limit)):=by show ju _ _ _ _ _;unfold Za;rw[if_pos (Or.inr h2)];exact v0
   have h2':limit≥ (os.length:Int):=h2;clear v0 h;go_enter Tryz.func23,Tryz.ntmps23;go_wp2;go_ret;exact⟨_,rfl,HV.out,rfl⟩
  ·obtain⟨n,rfl⟩: ∃n:Nat,limit=(n:Int):=⟨limit.toNat,by omega⟩;have HV:Hid (ju w lo hi (.slice ao n cap) (Za os n)):=by show ju _ _ _ _ _;unfold Za;rw[if_neg (by omega)];exact v0.take n (by omega)
   have h2': ¬(n:Int)≥ (os.length:Int):=by omega
   obtain⟨b,off,rfl⟩: ∃b off,ao=some ⟨b,off,none⟩:=by
    rcases h with h|⟨b,off,e,_⟩
    ·rw[h] at h2';simp at h2'
    ·exact⟨b,off,e⟩
   have hcap: ¬cap<n:=by omega
   clear v0 h;go_enter Tryz.func23,Tryz.ntmps23;go_wp2;go_ret;exact⟨_,rfl,HV.out,rfl⟩
theorem Xg (w:World){lo hi lo2 hi2:Nat}{v ov:Value}{d:Dsk}{os:List Opx}(limit:Int)(h1:ZU w lo hi v d)(ho:ju w lo2 hi2 ov os)(hoh:hi2≤w.heap.size):
  Calls Tryz.prog 9 #[v,ov,za limit] w fun e w'=> ∃v,e= .returned v∧qK w' w.heap.size w'.heap.size 84 5 v (doD d os limit)∧Chg 0 0 w w':=by
 have d0:=h1;have o0:=ho;obtain⟨dv,pv,rfl,v1,p1⟩:=h1;obtain⟨ao,cap,rfl,_,_,_⟩:=v1;obtain⟨po,pcap,rfl,_,_,_⟩:=p1;obtain⟨oo,ocap,rfl,_,_,_⟩:=ho;obtain⟨z1,z2,z3⟩:=zN w (.cells #[.slice ao d.dur.length cap,.slice po d.pend.length pcap] 26) (.cells #[zc,zc] 26);have hA:Chg 0 0 w ((w.alloc (.cells #[.slice ao d.dur.length cap,.slice po d.pend.length pcap] 26)).alloc (.cells #[zc,zc] 26)):=(Chg.alloc (Chg.refl 0 0 w) _).alloc _
 have dA:=d0.chg hA (by omega);go_enter Tryz.func9,Tryz.ntmps9;go_wp2_with fail;generalize (w.alloc (.cells #[.slice ao d.dur.length cap,.slice po d.pend.length pcap] 26)).alloc (.cells #[zc,zc] 26)=wa at*
 cases hV:jg d with
 |false=>
  refine(JG _ dA hV).mono ?_;rintro e wb ⟨rfl,hb⟩;have sb:=hb.size;have B1:=(hb.block (w.heap.size+1) (by omega) (by omega)).trans z3;obtain⟨y0,y1,yf0,yf1⟩:=zn B1;have hB:=hA.trans hb;have HC:Hid (Chg 0 0 w ((wb.setCell (zd (w.heap.size+1)) (zc)).setCell ⟨w.heap.size+1,1,none⟩ (zc))):=hB.step (Chg.set2 _ _ _ _) (by omega);have HF:Hid (doD d os limit=Dsk.none):=by show _=_;unfold doD;rw[if_neg (by rw[hV];simp)]
  clear hA hb z2 z3 dA B1 hB d0 o0 hV;go_wp2;refine bodyPost_ret (v:= .agg #[zc,zc]) (by simp[results,Tryz.results9,go_sem,y0,y1]) rfl ⟨_,rfl,?_,HC.out⟩;rw[HF.out];exact qK.none _ _ _ _ _
 |true=>
  have hVal:=(QK d).1 hV;refine(Z0 _ dA hVal).mono ?_;rintro e wb ⟨p,rfl,hdev,hb⟩;have sb:=hb.size;have B1:=(hb.block (w.heap.size+1) (by omega) (by omega)).trans z3;have hB:=hA.trans hb;clear hA hb z2 z3 dA d0 hVal;by_cases h4:os.length≤4000
  ·have hD:doD d os limit=(Zc d (Za os limit)).getD Dsk.none:=by unfold doD;rw[if_pos ⟨hV,h4⟩]
   have HD:Hid (doD d os limit=(Zc d (Za os limit)).getD Dsk.none):=hD;have oB:=o0.chg hB (by omega);clear hD hV o0;go_wp2_with fail;refine(Kj _ limit oB).mono ?_;rintro e wc ⟨fv,rfl,fo,rfl⟩;obtain⟨fs,hfs⟩: ∃fs,Za os limit=fs:=⟨_,rfl⟩;rw[hfs] at fo;have HFS:Hid (Za os limit=fs):=hfs;have HFO:Hid (ju wc lo2 hi2 fv fs):=fo;clear hfs oB;obtain⟨fo',fcap,rfl,hfl,_,_⟩:=fo;have HDev:Hid (Dev wc wa.heap.size p d):=hdev
   have HB:Hid (Chg 0 0 w wc):=hB;have HB1:Hid (wc.heap[w.heap.size+1]?=some (.cells #[zc,zc] 26 (0,0))):=B1;clear hdev hB B1;go_wp2;go_loopw [28] (fun i wr=> ∃(k:Nat) (dk:Dsk),k≤fs.length∧i=za k∧Zc d (fs.take k)=some dk∧Dev wr wa.heap.size p dk∧Chg 0 0 w wr∧Chg wa.heap.size wc.heap.size wc wr∧wr.heap[w.heap.size+1]?=some (.cells #[zc,zc] 26 (0,0))) (fun i _=>fs.length-(intOf i).toNat)
   case atStart=>exact⟨0,d,Nat.zero_le _,rfl,rfl,HDev.out,HB.out,Chg.refl _ _ _,HB1.out⟩
   case round=>
    obtain⟨k,dk,hk,rfl,hrun,hdev,hch,hch2,hbox⟩:=hrel;clear HDev HB HB1;by_cases hlt:k<fs.length
    ·have hi':(k:Int)<(fs.length:Int):=by omega
     obtain⟨fb,foff,rfl,hfb1,hfb2,hcell⟩: ∃b off,fo'=some ⟨b,off,none⟩∧lo2≤b∧b<hi2∧ ∀i,i<fs.length→ ∃dv,wc.cell? ⟨b,off+i*3,none⟩=some (za (fs.getD i Opx.zero).1)∧wc.cell? ⟨b,off+i*3+1,none⟩=some (za (fs.getD i Opx.zero).2.1)∧wc.cell? ⟨b,off+i*3+2,none⟩=some dv∧zr wc lo2 hi2 .u8 dv (fs.getD i Opx.zero).2.2:=by
      obtain⟨_,_,e,_,_,h⟩:=HFO.out
      cases e
      rcases h with h|⟨b,off,e,h1,h2,h3⟩
      ·rw[h] at hlt;simp at hlt
      ·cases e;exact⟨b,off,rfl,h1,h2,h3⟩
     obtain⟨dv,c1,c2,c3,vw⟩:=hcell k hlt;have HS:Hid (Zc d (fs.take (k+1))=(Zc d (fs.take k)).bind fun d'=>opD d' (fs.getD k Opx.zero)):=KR d fs k hlt;have c1:=hch2.cell c1 (by omega);have c2:=hch2.cell c2 (by omega);have c3:=hch2.cell c3 (by omega);have vw:=vw.chg hch2 (by omega);have HR:Hid (Zc d (fs.take (k+1))=opD dk (fs.getD k Opx.zero)):=by show _=_;rw[HS.out,hrun];rfl
     generalize fs.getD k Opx.zero=o at*;obtain⟨q,a,ys⟩:=o;simp only at c1 c2 c3 vw;have C1:Chg 0 0 wr (wr.alloc (.cells #[za q,za a,dv] 65)):=Chg.alloc (Chg.refl 0 0 wr) _;have hD:=abR _ q a ys (hdev.chg0 C1) (vw.chg C1 (by omega)) (by omega:hi2≤wa.heap.size);have HCH:Hid (Chg 0 0 w wr):=hch;have HCH2:Hid (Chg wa.heap.size wc.heap.size wc wr):=hch2;have HBX:Hid (wr.heap[w.heap.size+1]?=some (.cells #[zc,zc] 26 (0,0))):=hbox
     have HC1:Hid (Chg 0 0 wr (wr.alloc (.cells #[za q,za a,dv] 65))):=C1;obtain⟨vo,vc,rfl,_,_,_⟩:=vw;clear hcell HS hch hch2 hbox C1 hdev hrun;go_wp2_with fail;refine hD.mono ?_;rintro e w2 ⟨b,rfl,hc,hr⟩;have hc2:Chg wa.heap.size wr.heap.size wr w2:=HC1.out.into hc;have HCH':Hid (Chg 0 0 w w2):=HCH.out.step hc2 (Or.inr (Or.inl (by omega)));have HCH2':Hid (Chg wa.heap.size wc.heap.size wc w2):=HCH2.out.onto hc2
     have hwr:=HCH2.out.size;have B2:=(hc2.block (w.heap.size+1) (by omega) (by omega)).trans HBX.out;clear hD HCH HCH2 HC1 hc hc2 c1 c2 c3;rcases hr with⟨rfl,d',hop,hdev2⟩|⟨rfl,hop⟩
     ·have HB2:Hid (w2.heap[w.heap.size+1]?=some (.cells #[zc,zc] 26 (0,0))):=B2;have HDV:Hid (Dev w2 wa.heap.size p d'):=hdev2;have HRN:Hid (Zc d (fs.take (k+1))=some d'):=by show _=_;rw[HR.out];exact hop
      clear B2 hdev2 hop HR HBX;go_wp2;go_roundw
      case rel=>exact⟨k+1,d',by omega,by go_num,HRN.out,HDV.out,HCH'.out,HCH2'.out,HB2.out⟩
      case measure=>simp[intOf];omega
     ·have HF:Hid (doD d os limit=Dsk.none):=by
       show _=_;rw[HD.out,HFS.out,abb d fs (k+1) (by rw[HR.out];exact hop)];rfl
      obtain⟨y0,y1,yf0,yf1⟩:=zn B2;have HC:Hid (Chg 0 0 w ((w2.setCell (zd (w.heap.size+1)) (zc)).setCell ⟨w.heap.size+1,1,none⟩ (zc))):=HCH'.out.step (Chg.set2 _ _ _ _) (by omega);clear hop HR HBX B2 HCH' HCH2';go_wp2;refine bodyPost_ret (v:= .agg #[zc,zc]) (by simp[results,Tryz.results9,go_sem,y0,y1]) rfl ⟨_,rfl,?_,HC.out⟩;rw[HF.out];exact qK.none _ _ _ _ _
    ·obtain rfl:k=fs.length:=by omega
     rw[List.take_length] at hrun;have HF:Hid (doD d os limit=dk):=by show _=_;rw[HD.out,HFS.out,hrun];rfl
     have hK:=E5 _ hdev;have HBX:Hid (wr.heap[w.heap.size+1]?=some (.cells #[zc,zc] 26 (0,0))):=hbox;have HCH:Hid (Chg 0 0 w wr):=hch;have hszr:=hch2.size;clear hbox hch hch2 hdev hrun;go_wp2_with fail;refine hK.mono ?_;rintro e wd ⟨v,rfl,od,hd⟩;have sd:=hd.size;have B1:=(hd.block (w.heap.size+1) (by omega) (by omega)).trans HBX.out;obtain⟨y0,y1,yf0,yf1⟩:=zn B1;have hD':=HCH.out.trans hd;obtain⟨a1,l1,c1,a1',l1',c1',rfl⟩:=od.agg
     have HC:Hid (Chg 0 0 w ((wd.setCell (zd (w.heap.size+1)) (.slice a1 l1 c1)).setCell ⟨w.heap.size+1,1,none⟩ (.slice a1' l1' c1'))):=hD'.step (Chg.set2 _ _ _ _) (by omega);have HO:Hid (qK ((wd.setCell (zd (w.heap.size+1)) (.slice a1 l1 c1)).setCell ⟨w.heap.size+1,1,none⟩ (.slice a1' l1' c1')) wr.heap.size wd.heap.size 84 5 (.agg #[.slice a1 l1 c1,.slice a1' l1' c1']) dk):=od.chg (Chg.set2 _ _ _ _) (by omega)
     have HS:Hid (((wd.setCell (zd (w.heap.size+1)) (.slice a1 l1 c1)).setCell ⟨w.heap.size+1,1,none⟩ (.slice a1' l1' c1')).heap.size=wd.heap.size):=by show _=_;simp[World.setCell]
     have HZ:Hid (w.heap.size≤wr.heap.size):=by show _≤_;omega
     clear hK hd hD' od B1 HBX HCH;go_wp2;refine bodyPost_ret (v:= .agg #[.slice a1 l1 c1,.slice a1' l1' c1']) (by simp[results,Tryz.results9,go_sem,y0,y1]) rfl ⟨_,rfl,?_,HC.out⟩;rw[HF.out,HS.out];exact HO.out.lower HZ.out
  ·have HF:Hid (doD d os limit=Dsk.none):=by show _=_;unfold doD;rw[if_neg (fun h=>h4 h.2)]
   obtain⟨y0,y1,yf0,yf1⟩:=zn B1;have HC:Hid (Chg 0 0 w ((wb.setCell (zd (w.heap.size+1)) (zc)).setCell ⟨w.heap.size+1,1,none⟩ (zc))):=hB.step (Chg.set2 _ _ _ _) (by omega);have h4':(os.length:Int)>4000:=by omega
   clear B1 hB o0 hV hdev h4;go_wp2;refine bodyPost_ret (v:= .agg #[zc,zc]) (by simp[results,Tryz.results9,go_sem,y0,y1]) rfl ⟨_,rfl,?_,HC.out⟩;rw[HF.out];exact qK.none _ _ _ _ _
theorem YK (w:World){lo hi:Nat}{a:Value}{d:Dsk}(h1:ZU w lo hi a d):
  Calls Tryz.prog 5 #[a] w fun e w'=> ∃v,e= .returned v∧qK w' w.heap.size w'.heap.size 84 5 v (JW d)∧Chg 0 0 w w':=by
 have d0:=h1;obtain⟨dv,pv,rfl,v1,p1⟩:=h1;obtain⟨ao,cap,rfl,_,_,_⟩:=v1;obtain⟨po,pcap,rfl,_,_,_⟩:=p1;obtain⟨z1,z2,z3⟩:=zN w (.cells #[.slice ao d.dur.length cap,.slice po d.pend.length pcap] 26) (.cells #[zc,zc] 26);have hA:Chg 0 0 w ((w.alloc (.cells #[.slice ao d.dur.length cap,.slice po d.pend.length pcap] 26)).alloc (.cells #[zc,zc] 26)):=(Chg.alloc (Chg.refl 0 0 w) _).alloc _;have dA:=d0.chg hA (by omega)
 go_enter Tryz.func5,Tryz.ntmps5;go_wp2_with fail;generalize (w.alloc (.cells #[.slice ao d.dur.length cap,.slice po d.pend.length pcap] 26)).alloc (.cells #[zc,zc] 26)=wa at*
 cases hV:jg d with
 |false=>
  refine(JG _ dA hV).mono ?_;rintro e wb ⟨rfl,hb⟩;have B1:=(hb.block (w.heap.size+1) (by omega) (by omega)).trans z3;obtain⟨y0,y1,yf0,yf1⟩:=zn B1;have hB:=hA.trans hb;have HC:Hid (Chg 0 0 w ((wb.setCell (zd (w.heap.size+1)) (zc)).setCell ⟨w.heap.size+1,1,none⟩ (zc))):=hB.step (Chg.set2 _ _ _ _) (by omega);have HF:Hid (JW d=Dsk.none):=by show _=_;unfold JW;rw[if_neg (by rw[hV];simp)]
  clear hA hb z2 z3 dA B1 hB d0 hV;go_wp2;refine bodyPost_ret (v:= .agg #[zc,zc]) (by simp[results,Tryz.results5,go_sem,y0,y1]) rfl ⟨_,rfl,?_,HC.out⟩;rw[HF.out];exact qK.none _ _ _ _ _
 |true=>
  have hVal:=(QK d).1 hV;have HF:Hid (JW d=setD (fun _=>true) d):=by show _=_;unfold JW;rw[if_pos hV]
  refine(Z0 _ dA hVal).mono ?_;rintro e wb ⟨p,rfl,hdev,hb⟩;have sb:=hb.size;have B1:=(hb.block (w.heap.size+1) (by omega) (by omega)).trans z3;have hB:=hA.trans hb;clear hA hb z2 z3 dA d0 hV hVal;go_wp2_with fail;refine(Yk _ hdev).mono ?_;rintro e wc ⟨rfl,hdev2,hc⟩;have sc:=hc.size;have B1:=(hc.block (w.heap.size+1) (by omega) (by omega)).trans B1;have hC:Chg 0 0 w wc:=hB.step hc (by omega);clear hc hB hdev
  go_wp2_with fail;refine(E6 _ hdev2 rfl).mono ?_;rintro e wd ⟨v,rfl,od,hd⟩;have sd:=hd.size;have B1:=(hd.block (w.heap.size+1) (by omega) (by omega)).trans B1;obtain⟨y0,y1,yf0,yf1⟩:=zn B1;have hD:=hC.trans hd;obtain⟨a1,l1,c1,a1',l1',c1',rfl⟩:=od.agg;have HC:Hid (Chg 0 0 w ((wd.setCell (zd (w.heap.size+1)) (.slice a1 l1 c1)).setCell ⟨w.heap.size+1,1,none⟩ (.slice a1' l1' c1'))):=hD.step (Chg.set2 _ _ _ _) (by omega)
  have HO:Hid (qK ((wd.setCell (zd (w.heap.size+1)) (.slice a1 l1 c1)).setCell ⟨w.heap.size+1,1,none⟩ (.slice a1' l1' c1')) wc.heap.size wd.heap.size 84 5 (.agg #[.slice a1 l1 c1,.slice a1' l1' c1']) (setD (fun _=>true) d)):=od.chg (Chg.set2 _ _ _ _) (by omega);have HS:Hid (((wd.setCell (zd (w.heap.size+1)) (.slice a1 l1 c1)).setCell ⟨w.heap.size+1,1,none⟩ (.slice a1' l1' c1')).heap.size=wd.heap.size):=by show _=_;simp[World.setCell]
  clear hd hC hD od B1 hdev2;go_wp2;refine bodyPost_ret (v:= .agg #[.slice a1 l1 c1,.slice a1' l1' c1']) (by simp[results,Tryz.results5,go_sem,y0,y1]) rfl ⟨_,rfl,?_,HC.out⟩;rw[HF.out,HS.out];exact HO.out.lower (by omega)
theorem aaR {d d':Dsk}{o:Opx}(h:opD d o=some d')(hv:qV d):qV d':=by
 unfold opD at h;split at h
 ·split at h
  ·rename_i hc;obtain⟨h1,h2,h3,h4⟩:=hc
   cases h
   obtain⟨v1,v2,v3,v4,v5⟩:=hv;refine⟨v1,v2,v3,by simp;omega,fun i hi=>?_⟩;simp only[List.length_append,List.length_cons,List.length_nil] at hi;by_cases e:i<d.pend.length
   ·have:=v5 i e;simpa only[List.getD_eq_getElem?_getD,List.getElem?_append_left e] using this
   ·obtain rfl:i=d.pend.length:=by omega
    have e2:(d.pend++ [(o.2.1,o.2.2)]).getD d.pend.length (0,[])=(o.2.1,o.2.2):=by simp[List.getD_eq_getElem?_getD]
    show Good (d.dur.length/64) ((d.pend++ [(o.2.1,o.2.2)]).getD d.pend.length (0,[]));rw[e2];exact⟨h2,h3,h4⟩
  ·cases h
 ·split at h
  ·split at h
   ·cases h
    exact J2 _ hv
   ·cases h
  ·cases h
theorem ND {os:List Opx}{d d':Dsk}(h:Zc d os=some d')(hv:qV d):qV d':=by
 induction os generalizing d with
 |nil=>cases h;exact hv
 |cons o r ih=>
  simp only[Zc] at h
  cases e:opD d o with
  |none=>rw[e] at h;cases h
  |some d1=>rw[e] at h;exact ih h (aaR e hv)
theorem JV (os:List Opx):Za os (-1)=os:=by unfold Za;rw[if_pos (by omega)]
def blk (xs:List Int) (b:Nat):List Int:=(xs.drop (b*64)).take 64
def sld (K:Nat→Bool) (ps:List Wr) (b:Nat) (dflt:List Int):Nat→List Int
 |0=>dflt
 |k+1=>if(ps.getD k (0,[])).1=(b:Int)∧K k=true then(ps.getD k (0,[])).2 else sld K ps b dflt k
theorem jU (xs ys:List Int)(a b:Nat)(hy:ys.length=64)(ha:a*64+64≤xs.length):blk (splice xs (a*64) ys) b=if a=b then ys else blk xs b:=by
 unfold blk splice;split
 ·rename_i e;subst e;rw[List.drop_append_of_le_length (by rw[List.length_take];omega),List.drop_of_length_le (by rw[List.length_take];omega),List.nil_append,List.take_append_of_le_length (by omega),←hy,List.take_length]
 ·rename_i e;apply List.ext_getElem?;intro i;simp only[List.getElem?_take,List.getElem?_drop];split
  ·rename_i hi;rcases Nat.lt_or_ge b a with h|h
   ·rw[List.getElem?_append_left (by rw[List.length_take];omega),List.getElem?_take,if_pos (by omega)]
   ·have hl:((xs.take (a*64))++ys).length=a*64+64:=by rw[List.length_append,List.length_take,hy];omega
    rw[←List.append_assoc,List.getElem?_append_right (by rw[hl];omega),hl,List.getElem?_drop,hy];congr 1;omega
  ·rfl
theorem NY (K:Nat→Bool)(d:Dsk)(hv:qV d)(b:Nat): ∀k,k≤d.pend.length→blk (stl K d.pend d.dur k) b=sld K d.pend b (blk d.dur b) k
 |0,_=>rfl
 |k+1,hk=>by
  have ih:=NY K d hv b k (by omega)
  obtain⟨g1,g2,g3⟩:=hv.2.2.2.2 k (by omega)
  have hl:=Zs K d hv k (by omega)
  have hm:=hv.1
  show blk (if K k=true then splice (stl K d.pend d.dur k) ((d.pend.getD k (0,[])).1.toNat*64) (d.pend.getD k (0,[])).2 else stl K d.pend d.dur k) b=(if(d.pend.getD k (0,[])).1=(b:Int)∧K k=true then(d.pend.getD k (0,[])).2 else sld K d.pend b (blk d.dur b) k)
  by_cases hK:K k=true
  ·rw[if_pos hK,jU _ _ _ _ g3 (by rw[hl];omega),ih]
   by_cases e:(d.pend.getD k (0,[])).1=(b:Int)
   ·rw[if_pos (by omega),if_pos ⟨e,hK⟩]
   ·rw[if_neg (by omega),if_neg (fun h=>e h.1)]
  ·rw[if_neg hK,if_neg (fun h=>hK h.2),ih]
theorem aai (ps:List Wr)(b:Nat)(dflt:List Int): ∀k,k≤ps.length→ZA (ps.take k) (b:Int) dflt=sld (fun _=>true) ps b dflt k
 |0,_=>rfl
 |k+1,hk=>by
  have ih:=aai ps b dflt k (by omega)
  have e:ps.getD k (0,[])=ps[k]:=by simp[List.getD_eq_getElem?_getD,show k<ps.length by omega]
  rw[List.take_succ_eq_append_getElem (by omega),QH,ih]
  show _=(if(ps.getD k (0,[])).1=(b:Int)∧true=true then(ps.getD k (0,[])).2 else sld (fun _=>true) ps b dflt k)
  rw[e]
  simp[ZA]
theorem aaF {xs:List Int}:(jy xs).take 4≠mg:=by
 unfold jy;split
 ·simp[mg]
 ·assumption
theorem abl {xs:List Int}(h:xs.length=64):UN (jy xs) (decide (xs.take 4=mg))=xs:=by
 have hl:=ji h;by_cases hm:xs.take 4=mg
 ·rw[decide_eq_true hm];have e:jy xs= [0,0,0,0]++xs.drop 4:=by unfold jy;rw[if_pos hm]
  unfold UN Zt jD;rw[if_pos ⟨hl,by rw[e];simp⟩,if_pos rfl,e,←hm];simp
 ·rw[decide_eq_false hm];have e:jy xs=xs:=by unfold jy;rw[if_neg hm]
  rw[e];unfold UN Zt jD;rw[if_pos ⟨h,by simp[hm]⟩];simp
end Go.Proofs.YtacjklochmelfaaGreatDoor
