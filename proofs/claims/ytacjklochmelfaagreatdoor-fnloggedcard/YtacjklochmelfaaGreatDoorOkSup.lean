import Derived.Test.YtacjklochmelfaaGreatDoorValid
import Derived.Test.YtacjklochmelfaaGreatDoorEscMath
import Derived.Test.YtacjklochmelfaaGreatDoorTxnImpl2
import Derived.Test.YtacjklochmelfaaGreatDoorRows
import Derived.Test.YtacjklochmelfaaGreatDoorPutByt
import Derived.Test.YtacjklochmelfaaGreatDoorCells2
import Derived.Test.YtacjklochmelfaaGreatDoorImplBlk
import Derived.Test.YtacjklochmelfaaGreatDoorHeld
import Derived.Test.YtacjklochmelfaaGreatDoorRowZ
import Derived.Test.YtacjklochmelfaaGreatDoorCopyRow
import Derived.Test.YtacjklochmelfaaGreatDoorJReadC
import Derived.Test.YtacjklochmelfaaGreatDoorWeak
import Derived.Deep.RegionWith
import Derived.Deep.DeepCutAuto
namespace Go.Proofs.YtacjklochmelfaaGreatDoor
open Go.RowKit
set_option maxRecDepth 100000
set_option maxHeartbeats 16000000
def qa:RS→List FB→RS
 |s,[]=>s
 |s,x::xs=>if(zy s x).2=true then qa (zy s x).1 xs else(zy s x).1
def RS.txn (s:RS):Tx:=⟨s.seq,s.homes,s.revs⟩
def Uo (h:Wr):FB:= .raw (jy h.2)
def Uq (q:Int) (hs:List Wr):List FB:= .des q (hs.map zQ)::hs.map Uo
def Kc (q:Int) (hs:List Wr) (rs:List Int):List FB:=(jY 26 rs).map (FB.rev q)++(jY 17 hs).flatMap (Uq q)
def abM (q:Int) (bs:List (List Int)):FB:= .com q bs.length (jW bs.flatten)
def ZF (t:Tx):List FB:=Kc t.seq t.homes t.revs++ [abM t.seq (BL t.seq t.homes t.revs)]
theorem aao (t:Tx):ZF t≠ []:=by unfold ZF;simp
theorem abH (q:Int)(hs:List Wr)(rs:List Int):(Kc q hs rs).map FB.bs=BL q hs rs:=by
 unfold Kc BL;have e: ∀c:List Wr,(Uq q c).map FB.bs=zG q c:=fun c=>by
  unfold Uq zG;rw[List.map_cons,List.map_map];congr 1;show qc (zm 2 ((c.map zQ).length:Int) q++zE (c.map zQ))=Qu q c;rw[List.length_map];rfl
 rw[List.map_append,List.map_map,List.map_flatMap,show(fun c:List Wr=>(Uq q c).map FB.bs)=zG q from funext e];rfl
theorem Y8 {t:Tx}(h:jx t):(ZF t).map FB.bs=TL t:=by
 unfold ZF TL;rw[if_pos (qz h),List.map_append,abH];rfl
theorem aaf {xs:List Int}(h:zK xs xs.length):K7 xs:=⟨fun _ hi=>h.ahead hi,h.bound (Nat.le_refl _)⟩
theorem UY {α:Type}{n:Nat}(hn:0<n){xs c:List α}(h:c∈jY n xs):1≤c.length∧c.length≤n∧ ∃i,c=(xs.drop i).take n:=by
 unfold jY at h;obtain⟨i,hi,rfl⟩:=List.mem_map.1 h;have hi:=List.mem_range.1 hi;have h2:(i+1)*n≤xs.length+n-1:=(Nat.le_div_iff_mul_le hn).1 hi;have h3:n*i+n=(i+1)*n:=by rw[Nat.add_mul,Nat.one_mul,Nat.mul_comm]
 refine⟨?_,?_,_,rfl⟩
 ·rw[List.length_take,List.length_drop];omega
 ·rw[List.length_take];omega
theorem acN {h:Wr}(hl:h.2.length=64)(hb:Byt h.2):(Uo h).ok:=⟨ji hl,NZ hb,aaF⟩
theorem abI {q:Int}{hs:List Wr}{rs:List Int}(h:OkT q hs rs): ∀x∈Kc q hs rs,x.ok:=by
 intro x hx;unfold Kc at hx;rcases List.mem_append.1 hx with hx|hx
 ·obtain⟨c,hc,rfl⟩:=List.mem_map.1 hx;obtain⟨h1,h2,i,rfl⟩:=UY (by omega) hc;exact⟨⟨h.q0,h.q1⟩,aaf ((h.rev.drop i).take 26),h1,h2⟩
 ·obtain⟨c,hc,hx⟩:=List.mem_flatMap.1 hx;obtain⟨h1,h2,i,rfl⟩:=UY (by omega) hc;have hk:=(h.dropH i).takeH 17;unfold Uq at hx;rcases List.mem_cons.1 hx with rfl|hx
  ·refine⟨⟨h.q0,h.q1⟩,?_,by rw[List.length_map];exact h1,by rw[List.length_map];exact h2⟩;have ht:=Uf hk;have e:(List.map zQ ((hs.drop i).take 17)).map Prod.fst=(List.map zQ ((hs.drop i).take 17)).map (·.1):=rfl;rw[e];refine aaf ?_;rw[List.length_map];exact ht
  ·obtain⟨y,hy,rfl⟩:=List.mem_map.1 hx;exact acN (hk.data y hy) (hk.byt y hy)
theorem adg {t:Tx}(h:jx t)(hb: ∀x∈t.homes,Byt x.2): ∀x∈ZF t,x.ok:=by
 have hok:=OkT.of h hb;intro x hx;unfold ZF at hx;rcases List.mem_append.1 hx with hx|hx
 ·exact abI hok x hx
 ·obtain rfl:=List.mem_singleton.1 hx;obtain⟨⟨_,hs1,hs2⟩,_⟩:=h;obtain⟨i1,i2⟩:=VG 128 (q:=t.seq) (hs:=t.homes) (rs:=t.revs) (by omega) hok;have hp:=abt (q:=t.seq) (hs:=t.homes) (rs:=t.revs) (by omega);obtain⟨c0,c1⟩:=qp (BL t.seq t.homes t.revs).flatten;exact⟨⟨hok.q0,hok.q1⟩,⟨by omega,by omega⟩,c0,c1⟩
theorem UE (hs:List Wr)(h: ∀x∈hs,x.2.length=64): ∀(s:RS) (ys:List FB),s.aw=hs.map zQ→
  qa s (hs.map Uo++ys)=qa ⟨s.seen++hs.map (fun x=>jy x.2),s.seq,s.homes++hs,s.revs,[]⟩ ys:=by
 induction hs with
 |nil=>intro s ys ha;cases s;simp at ha⊢;rw[ha]
 |cons x r ih=>
  intro s ys ha;have hx:=abl (h x (by simp));have hl:=ji (h x (by simp));have hu:Zt (jy x.2) (decide (x.2.take 4=mg))=true∧jD (jy x.2) (decide (x.2.take 4=mg))=x.2:=by
   unfold UN at hx;split at hx
   ·rename_i hc;exact⟨hc.2,hx⟩
   ·exact absurd (congrArg List.length hx) (by rw[h x (by simp)];simp)
  have e:zy s (Uo x)=(⟨s.seen++ [jy x.2],s.seq,s.homes++ [x],s.revs,r.map zQ⟩,true):=by
   unfold zy;rw[ha,List.map_cons];simp only[zQ,Uo,FB.bs];exact(if_pos hu.1).trans (by rw[hu.2])
  rw[List.map_cons,List.cons_append];show(if(zy s (Uo x)).2=true then qa (zy s (Uo x)).1 (r.map Uo++ys) else _)=_;rw[e,if_pos rfl,ih (fun y hy=>h y (by simp[hy])) _ ys rfl];simp
theorem aaW {q:Int}{hs:List Wr}(h: ∀x∈hs,x.2.length=64)(s:RS)(ys:List FB)(ha:s.aw= []):
  qa s (Uq q hs++ys)=qa ⟨s.seen++zG q hs,s.seq,s.homes++hs,s.revs,[]⟩ ys:=by
 unfold Uq;rw[List.cons_append];have e:zy s (.des q (hs.map zQ))=(⟨s.seen++ [Qu q hs],s.seq,s.homes,s.revs,hs.map zQ⟩,true):=by
  unfold zy;rw[ha];show((⟨s.seen++ [qc (zm 2 ((hs.map zQ).length:Int) q++zE (hs.map zQ))],s.seq,s.homes,s.revs,hs.map zQ⟩,true):RS×Bool)=_;rw[List.length_map];rfl
 show(if(zy s (.des q (hs.map zQ))).2=true then qa (zy s (.des q (hs.map zQ))).1 (hs.map Uo++ys) else _)=_;rw[e,if_pos rfl,UE hs h _ ys rfl];unfold zG;simp
theorem Nq {q:Int}(cs:List (List Wr))(h: ∀c∈cs,∀x∈c,x.2.length=64): ∀(s:RS) (ys:List FB),s.aw= []→
  qa s (cs.flatMap (Uq q)++ys)=qa ⟨s.seen++cs.flatMap (zG q),s.seq,s.homes++cs.flatten,s.revs,[]⟩ ys:=by
 induction cs with
 |nil=>intro s ys ha;cases s;simp at ha⊢;rw[ha]
 |cons c r ih=>
  intro s ys ha;rw[List.flatMap_cons,List.append_assoc,aaW (h c (by simp)) s _ ha,ih (fun x hx=>h x (by simp[hx])) _ ys rfl];simp
theorem Ns {q:Int}(cs:List (List Int)): ∀(s:RS) (ys:List FB),s.aw= []→
  qa s (cs.map (FB.rev q)++ys)=qa ⟨s.seen++cs.map (Qh q),s.seq,s.homes,s.revs++cs.flatten,[]⟩ ys:=by
 induction cs with
 |nil=>intro s ys ha;cases s;simp at ha⊢;rw[ha]
 |cons c r ih=>
  intro s ys ha;have e:zy s (.rev q c)=(⟨s.seen++ [Qh q c],s.seq,s.homes,s.revs++c,[]⟩,true):=by
   unfold zy;rw[ha];rfl
  rw[List.map_cons,List.cons_append];show(if(zy s (.rev q c)).2=true then qa (zy s (.rev q c)).1 (r.map (FB.rev q)++ys) else _)=_;rw[e,if_pos rfl,ih _ ys rfl];simp
theorem Kd {α:Type}(n:Nat)(hn:0<n): ∀(k:Nat) (xs:List α),xs.length≤k→(jY n xs).flatten=xs:=by
 intro k
 induction k with
 |zero=>
  intro xs h;obtain rfl:xs= []:=List.eq_nil_of_length_eq_zero (by omega);rw[Zm n hn];rfl
 |succ k ih=>
  intro xs h;by_cases h0:0<xs.length
  ·rw[Zl n hn h0,List.flatten_cons,ih _ (by rw[List.length_drop];omega),List.take_append_drop]
  ·obtain rfl:xs= []:=List.eq_nil_of_length_eq_zero (by omega);rw[Zm n hn];rfl
theorem aaY {t:Tx}(h:jx t)(hb: ∀x∈t.homes,Byt x.2)(ys:List FB):qa RS.zero (ZF t++ys)=⟨TL t,t.seq,t.homes,t.revs,[]⟩:=by
 have hok:=OkT.of h hb;unfold ZF Kc;rw[List.append_assoc,List.append_assoc,Ns _ _ _ rfl,Nq _ (fun c hc x hx=>hok.data x (VO hc x hx)) _ _ rfl];rw[Kd 26 (by omega) _ _ (Nat.le_refl _),Kd 17 (by omega) _ _ (Nat.le_refl _)];have e: ∀s:RS,s.aw= []→zy s (abM t.seq (BL t.seq t.homes t.revs))=(⟨s.seen++ [Kf t.seq (BL t.seq t.homes t.revs)],t.seq,s.homes,s.revs,[]⟩,false):=by
  intro s ha;unfold zy;rw[ha];rfl
 rw[List.cons_append];show(if(zy _ (abM t.seq (BL t.seq t.homes t.revs))).2=true then qa _ _ else(zy _ (abM t.seq (BL t.seq t.homes t.revs))).1)=_;rw[e _ rfl,if_neg (by simp)];unfold TL;rw[if_pos (qz h)];simp[RS.zero,BL]
theorem aaX: ∀(xs:List FB) (s:RS),(qa s xs).seq=s.seq∨ ∃c m,FB.com (qa s xs).seq c m∈xs:=by
 intro xs
 induction xs with
 |nil=>intro s;exact Or.inl rfl
 |cons x r ih=>
  intro s;have e:(zy s x).1.seq=s.seq∨ ∃c m,x=FB.com (zy s x).1.seq c m:=by
   unfold zy;split
   ·split<;>exact Or.inl rfl
   ·cases x using FB.el with
    |rev q rs=>exact Or.inl rfl
    |des q ts=>exact Or.inl rfl
    |com q c m=>exact Or.inr ⟨c,m,rfl⟩
    |raw b=>exact Or.inl rfl
  show(if(zy s x).2=true then qa (zy s x).1 r else(zy s x).1).seq=s.seq∨ ∃c m,FB.com (if(zy s x).2=true then qa (zy s x).1 r else(zy s x).1).seq c m∈x::r;split
  ·rcases ih (zy s x).1 with h|⟨c,m,h⟩
   ·rw[h];rcases e with e|⟨c,m,e⟩
    ·exact Or.inl e
    ·exact Or.inr ⟨c,m,by rw[←e];simp⟩
   ·exact Or.inr ⟨c,m,by simp[h]⟩
  ·rcases e with e|⟨c,m,e⟩
   ·exact Or.inl e
   ·exact Or.inr ⟨c,m,by rw[←e];simp⟩
def ZV (lo hi:Int):List FB→Int→List Tx→Prop
 |xs,q,[]=>TL (qa RS.zero xs).txn≠(qa RS.zero xs).seen∨(qa RS.zero xs).seen= []∨(qa RS.zero xs).seq≠q
 |xs,q,t::ts=>qa RS.zero xs=⟨TL t,q,t.homes,t.revs,[]⟩∧t.seq=q∧jx t∧(∀x∈t.homes,lo≤x.1∧x.1≤hi)∧(∀x∈t.revs,lo≤x∧x≤hi)∧ZV lo hi (xs.drop (TL t).length) (q+1) ts
theorem ZV.stop {lo hi:Int}{xs:List FB}{q:Int}(h:TL (qa RS.zero xs).txn≠(qa RS.zero xs).seen∨(qa RS.zero xs).seen= []∨(qa RS.zero xs).seq≠q):ZV lo hi xs q []:=h
theorem ZV.step {lo hi:Int}{xs:List FB}{q:Int}{ts:List Tx}(t:Tx)(h:qa RS.zero xs=⟨TL t,q,t.homes,t.revs,[]⟩)(hq:t.seq=q)(hv:jx t)(hh: ∀x∈t.homes,lo≤x.1∧x.1≤hi)(hr: ∀x∈t.revs,lo≤x∧x≤hi)(hs:ZV lo hi (xs.drop (TL t).length) (q+1) ts):ZV lo hi xs q (t::ts):=⟨h,hq,hv,hh,hr,hs⟩
theorem NH {lo hi:Int}(ts:List Tx): ∀(q:Int) (ys:List FB),1≤q→(∀t∈ts,jx t∧(∀x∈t.homes,Byt x.2)∧(∀x∈t.homes,lo≤x.1∧x.1≤hi)∧ ∀x∈t.revs,lo≤x∧x≤hi)→
  (∀i,i<ts.length→(ts.getD i ⟨0,[],[]⟩).seq=q+i)→(∀n c m,FB.com n c m∈ys→n≠q+ts.length)→ZV lo hi (ts.flatMap ZF++ys) q ts:=by
 induction ts with
 |nil=>
  intro q ys hq _ _ hn;refine .stop ?_;rcases aaX ([].flatMap ZF++ys) RS.zero with h|⟨c,m,h⟩
  ·right;right;rw[h];show(0:Int)≠q;omega
  ·right;right;intro e;exact hn _ c m h (by rw[e];simp)
 |cons t r ih=>
  intro q ys hq ht hs hn;obtain⟨hv,hb,hh,hr⟩:=ht t (by simp);have e0:t.seq=q:=by have:=hs 0 (by simp);simpa using this
  rw[List.flatMap_cons,List.append_assoc];have hl:(ZF t).length=(TL t).length:=by rw[←Y8 hv,List.length_map]
  refine .step t (by rw[aaY hv hb,e0]) e0 hv hh hr ?_;rw[←hl,List.drop_left];refine ih (q+1) ys (by omega) (fun x hx=>ht x (by simp[hx])) (fun i hi=>?_) (fun n c m h=>?_)
  ·have:=hs (i+1) (by simpa using hi);rw[List.getD_cons_succ] at this;rw[this];omega
  ·have:=hn n c m h;rw[List.length_cons] at this;omega
def qk (size p n:Int):Int:=(p-1+n) % size+1
theorem jo (w:World)(size p n:Int)(h1:16≤size)(h2:size≤512)(h3:1≤p)(h4:p≤512)(h5:0≤n)(h6:n≤512):
  Calls Tryz.prog 28 #[za p,za n,za size] w fun e w'=>e= .returned (za (qk size p n))∧w'=w:=by
 have hm:=Int.emod_nonneg (p-1+n) (b:=size) (by omega);have hm2:=Int.emod_lt_of_pos (p-1+n) (b:=size) (by omega);go_enter Tryz.func28,Tryz.ntmps28;go_wp2;go_ret;exact⟨rfl,rfl⟩
abbrev Z5 (sz st sq hd us:Int):Prop:=(16≤sz∧sz≤512)∧(1≤sq∧sq≤4294967295)∧(0≤st∧st≤sz)∧(1≤hd∧hd≤sz)∧(0≤us∧us≤sz)
def zJ (sz st sq hd us:Int):Bool:=decide (Z5 sz st sq hd us)&& (if st=0 then decide (us=0) else decide (hd=qk sz st us))
theorem Zf {sz st sq hd us:Int}(h: ¬Z5 sz st sq hd us):zJ sz st sq hd us=false:=by unfold zJ;rw[decide_eq_false h];rfl
theorem JM {sz st sq hd us:Int}(h:Z5 sz st sq hd us)(h0:st=0):zJ sz st sq hd us=decide (us=0):=by unfold zJ;rw[decide_eq_true h,if_pos h0];rfl
theorem YD {sz st sq hd us:Int}(h:Z5 sz st sq hd us)(h0: ¬st=0):zJ sz st sq hd us=decide (hd=qk sz st us):=by unfold zJ;rw[decide_eq_true h,if_neg h0];rfl
theorem jn (w:World)(sz st sq hd us:Int):
  Calls Tryz.prog 16 #[.agg #[za sz,za st,za sq,za hd,za us]] w fun e w'=>e= .returned (.bool (zJ sz st sq hd us))∧Chg 0 0 w w':=by
 have HC:Hid (Chg 0 0 w (w.alloc (.cells #[za sz,za st,za sq,za hd,za us] 30))):=Chg.alloc (Chg.refl 0 0 w) _;go_enter Tryz.func16,Tryz.ntmps16;go_wp2_with fail;refine(qx _ sz 16 512).mono ?_;rintro e w1 ⟨rfl,rfl⟩;by_cases c1:16≤sz∧sz≤512
 case neg=>
  have hv:zJ sz st sq hd us=false:=Zf (fun h=>c1 h.1);have hb:(decide (16≤sz)&&decide (sz≤512))=false:=by rw[Bool.eq_false_iff];simpa using c1
  rw[hb];go_wp2;go_ret;exact⟨by rw[hv];rfl,HC.out⟩
 have hb:(decide (16≤sz)&&decide (sz≤512))=true:=by simpa using c1
 rw[hb];clear hb;go_wp2_with fail;refine(qx _ sq 1 4294967295).mono ?_;rintro e w1 ⟨rfl,rfl⟩;by_cases c2:1≤sq∧sq≤4294967295
 case neg=>
  have hv:zJ sz st sq hd us=false:=Zf (fun h=>c2 h.2.1);have hb:(decide (1≤sq)&&decide (sq≤4294967295))=false:=by rw[Bool.eq_false_iff];simpa using c2
  rw[hb];go_wp2;go_ret;exact⟨by rw[hv];rfl,HC.out⟩
 have hb:(decide (1≤sq)&&decide (sq≤4294967295))=true:=by simpa using c2
 rw[hb];clear hb;go_wp2_with fail;refine(qx _ st 0 sz).mono ?_;rintro e w1 ⟨rfl,rfl⟩;by_cases c3:0≤st∧st≤sz
 case neg=>
  have hv:zJ sz st sq hd us=false:=Zf (fun h=>c3 h.2.2.1);have hb:(decide (0≤st)&&decide (st≤sz))=false:=by rw[Bool.eq_false_iff];simpa using c3
  rw[hb];go_wp2;go_ret;exact⟨by rw[hv];rfl,HC.out⟩
 have hb:(decide (0≤st)&&decide (st≤sz))=true:=by simpa using c3
 rw[hb];clear hb;go_wp2_with fail;refine(qx _ hd 1 sz).mono ?_;rintro e w1 ⟨rfl,rfl⟩;by_cases c4:1≤hd∧hd≤sz
 case neg=>
  have hv:zJ sz st sq hd us=false:=Zf (fun h=>c4 h.2.2.2.1);have hb:(decide (1≤hd)&&decide (hd≤sz))=false:=by rw[Bool.eq_false_iff];simpa using c4
  rw[hb];go_wp2;go_ret;exact⟨by rw[hv];rfl,HC.out⟩
 have hb:(decide (1≤hd)&&decide (hd≤sz))=true:=by simpa using c4
 rw[hb];clear hb;go_wp2_with fail;refine(qx _ us 0 sz).mono ?_;rintro e w1 ⟨rfl,rfl⟩;by_cases c5:0≤us∧us≤sz
 case neg=>
  have hv:zJ sz st sq hd us=false:=Zf (fun h=>c5 h.2.2.2.2);have hb:(decide (0≤us)&&decide (us≤sz))=false:=by rw[Bool.eq_false_iff];simpa using c5
  rw[hb];go_wp2;go_ret;exact⟨by rw[hv];rfl,HC.out⟩
 have hb:(decide (0≤us)&&decide (us≤sz))=true:=by simpa using c5
 rw[hb];clear hb;have c:Z5 sz st sq hd us:=⟨c1,c2,c3,c4,c5⟩;obtain⟨⟨a1,a2⟩,⟨a3,a4⟩,⟨a5,a6⟩,⟨a7,a8⟩,⟨a9,a10⟩⟩:=id c;clear c1 c2 c3 c4 c5;by_cases c0:st=0
 ·subst c0;have hv:=JM c rfl;have Hv:Hid (zJ sz 0 sq hd us=decide (us=0)):=hv;clear hv c;go_wp2;go_ret;exact⟨by rw[Hv.out];rfl,HC.out⟩
 have hv:=YD c c0;have Hv:Hid (zJ sz st sq hd us=decide (hd=qk sz st us)):=hv;clear hv c;go_wp2_with fail;go_quiet (first|(go_at_call 28;exact Calls.quiet_of_same (jo _ sz st us a1 a2 (by omega) (by omega) a9 (by omega))));go_wp2;go_ret;exact⟨by rw[Hv.out];rfl,HC.out.drewN _⟩
theorem ZX {w:World}{s:Nat}{a b c d e:Value}{t:TypeId}(h:w.heap[s]?=some (.cells #[a,b,c,d,e] t (0,0))):
  w.cell? (zd s)=some a∧w.cell? ⟨s,1,none⟩=some b∧w.cell? ⟨s,2,none⟩=some c∧w.cell? ⟨s,3,none⟩=some d∧w.cell? ⟨s,4,none⟩=some e:=by
 simp[World.cell?,h]
theorem Xd {w:World}{s:Nat}{a b c d e:Value}{t:TypeId}(h:w.heap[s]?=some (.cells #[a,b,c,d,e] t (0,0))):
  (w.cell? (zd s)=some a∧w.cell? ⟨s,1,none⟩=some b∧w.cell? ⟨s,2,none⟩=some c∧w.cell? ⟨s,3,none⟩=some d∧w.cell? ⟨s,4,none⟩=some e)∧
   w.frozen? (zd s)=false∧w.frozen? ⟨s,1,none⟩=false∧w.frozen? ⟨s,2,none⟩=false∧w.frozen? ⟨s,3,none⟩=false∧w.frozen? ⟨s,4,none⟩=false:=by
 simp[World.cell?,World.frozen?,h]
abbrev j8 (sz st sq hd us:Int):Value:= .agg #[za sz,za st,za sq,za hd,za us]
abbrev jG (t:TypeId) (sz st sq hd us:Int):Obj:= .cells #[za sz,za st,za sq,za hd,za us] t
def jt (sz st sq hd us:Int) (t:Tx):Bool:=zJ sz st sq hd us&& (qO t&& (decide (sq=t.seq)&& (decide (sq<4294967295)&&decide (((TL t).length:Int)≤sz-us))))
theorem Y9 {sz st sq hd us:Int}(h:zJ sz st sq hd us=true):Z5 sz st sq hd us:=by
 unfold zJ at h;rw[Bool.and_eq_true,decide_eq_true_eq] at h;exact h.1
theorem EV {t:Tx}(h:qO t=true):1≤(TL t).length:=by unfold TL;rw[if_pos h,List.length_append];simp
theorem acL {t:Tx}(h: ¬qO t=true):TL t= []:=by unfold TL;rw[if_neg h]
theorem YB (w:World){lo hi:Nat}{a:Value}{t:Tx}(sz st sq hd us:Int)(hl:Z3 t≤1048576)(hhi:hi≤w.heap.size)(hby: ∀x∈t.homes,Byt x.2)(hM:Mag w)(h1:jI w lo hi a t):
  Calls Tryz.prog 26 #[j8 sz st sq hd us,a] w fun e w'=>e= .returned (za (if jt sz st sq hd us t=true then((TL t).length:Int) else 0))∧Chg 0 0 w w':=by
 have hT:=h1;obtain⟨hv,rv,rfl,p1,v1⟩:=h1;obtain⟨po,pcap,rfl⟩:=p1.slice;obtain⟨ao,cap,rfl⟩:=v1.slice;have hMl:=hM.lt;obtain⟨rz,Hrz⟩: ∃rz:Int,Hid (rz=if jt sz st sq hd us t=true then((TL t).length:Int) else 0):=⟨_,rfl⟩;rw[←Hrz.out];have HT:Hid (∀W,Chg 0 0 w W→jI W lo hi (.agg #[za t.seq,.slice po t.homes.length pcap,.slice ao t.revs.length cap]) t):=fun W hW=>hT.chg hW (by omega);have hA:Chg 0 0 w ((w.alloc (jG 30 sz st sq hd us)).alloc (.cells #[za t.seq,.slice po t.homes.length pcap,.slice ao t.revs.length cap] 35)):=(Chg.alloc (Chg.refl 0 0 w) _).alloc _
 obtain⟨z,b0,b1⟩:=zN w (jG 30 sz st sq hd us) (.cells #[za t.seq,.slice po t.homes.length pcap,.slice ao t.revs.length cap] 35);clear hT p1 v1;have hN: ∀(W:World),Chg 0 0 w W→zJ sz st sq hd us=true→t.seq=sq→sq<4294967295→Calls Tryz.prog 58 #[.agg #[za t.seq,.slice po t.homes.length pcap,.slice ao t.revs.length cap],za (sz-us)] W fun e w'=>e= .returned (za rz)∧Chg 0 0 W w':=by
  intro W hW hvl hsq hlt;have hIn:=Y9 hvl;unfold Z5 at hIn;have Ht:(if((TL t).length:Int)≤sz-us then((TL t).length:Int) else 0)=rz:=by
   rw[Hrz.out];unfold jt;by_cases hvt:qO t=true
   ·rw[hvl,hvt,decide_eq_true hsq.symm,decide_eq_true hlt];simp
   ·rw[acL hvt];simp
  rw[←Ht];exact JZ W (sz-us) (by omega) hl (by have:=hW.size;omega) hby (hM.chg hW (by omega)) (HT.out W hW)
 clear HT hM;go_enter Tryz.func26,Tryz.ntmps26;go_wp2_with fail;generalize (w.alloc (jG 30 sz st sq hd us)).alloc (.cells #[za t.seq,.slice po t.homes.length pcap,.slice ao t.revs.length cap] 35)=w0 at*;refine(jn _ sz st sq hd us).mono ?_;rintro e w1 ⟨rfl,h1⟩;have B0:=(h1.block _ (by omega) (by omega)).trans b0;have B1:=(h1.block _ (by omega) (by omega)).trans b1;have HA:Hid (Chg 0 0 w w1):=hA.trans h1
 obtain⟨x0,x1,x2,x3,x4⟩:=ZX B0;obtain⟨⟨k0,k1,k2⟩,_⟩:=tri B1;clear h1 b0 b1 B0 B1 hA;by_cases hvl:zJ sz st sq hd us=true
 case neg=>
  rw[Bool.not_eq_true] at hvl;have Ht:Hid (rz=0):=by show _=_;rw[Hrz.out];unfold jt;rw[hvl];rfl
  rw[hvl];clear hvl hN;go_wp2;go_ret;exact⟨by rw[Ht.out];rfl,HA.out⟩
 have hIn:=Y9 hvl;by_cases hsq:t.seq=sq
 case neg=>
  have Ht:Hid (rz=0):=by show _=_;rw[Hrz.out];unfold jt;rw[decide_eq_false (fun e=>hsq e.symm)];simp
  rw[hvl];clear hvl hN;go_wp2;go_ret;exact⟨by rw[Ht.out];rfl,HA.out⟩
 by_cases hlt:sq<4294967295
 case neg=>
  have Ht:Hid (rz=0):=by show _=_;rw[Hrz.out];unfold jt;rw[decide_eq_false hlt];simp
  rw[hvl];clear hvl hN;go_wp2;go_ret;exact⟨by rw[Ht.out];rfl,HA.out⟩
 unfold Z5 at hIn;have hN:=fun W h=>hN W h hvl hsq hlt;have hwr:IntKind.i64.wrap (sz-us)=sz-us:=by rw[IntKind.wrap_i64];omega
 rw[hvl];have hvs:(t.seq !=sq)=false:=by rw[hsq];simp
 clear hvl hsq;go_wp2_with fail;refine(hN _ HA.out).mono ?_;rintro e w3 ⟨rfl,h3⟩;have HA3:Hid (Chg 0 0 w w3):=HA.out.trans h3;clear h3 hN;go_wp2;go_ret;exact⟨rfl,HA3.out⟩
def KD (sz st sq hd us:Int) (t:Tx):Value:=if jt sz st sq hd us t=true then j8 sz (if st=0 then hd else st) (sq+1) (qk sz hd ((TL t).length:Int)) (us+((TL t).length:Int)) else j8 0 0 0 0 0
theorem YC {sz st sq hd us:Int}{t:Tx}(h:jt sz st sq hd us t=true):Z5 sz st sq hd us∧qO t=true∧sq=t.seq∧sq<4294967295∧((TL t).length:Int)≤sz-us:=by
 unfold jt at h;simp only[Bool.and_eq_true,decide_eq_true_eq] at h;exact⟨Y9 h.1,h.2⟩
theorem Xh (w:World){lo hi:Nat}{a:Value}{t:Tx}(sz st sq hd us:Int)(hl:Z3 t≤1048576)(hhi:hi≤w.heap.size)(hby: ∀x∈t.homes,Byt x.2)(hM:Mag w)(h1:jI w lo hi a t):
  Calls Tryz.prog 13 #[j8 sz st sq hd us,a] w fun e w'=>e= .returned (KD sz st sq hd us t)∧Chg 0 0 w w':=by
 have hT:=h1;obtain⟨hv,rv,rfl,p1,v1⟩:=h1;obtain⟨po,pcap,rfl⟩:=p1.slice;obtain⟨ao,cap,rfl⟩:=v1.slice;have hMl:=hM.lt;have HT:Hid (∀W,Chg 0 0 w W→jI W lo hi (.agg #[za t.seq,.slice po t.homes.length pcap,.slice ao t.revs.length cap]) t):=fun W hW=>hT.chg hW (by omega);have hA:Chg 0 0 w (((w.alloc (jG 30 sz st sq hd us)).alloc (.cells #[za t.seq,.slice po t.homes.length pcap,.slice ao t.revs.length cap] 35)).alloc (jG 30 0 0 0 0 0)):=((Chg.alloc (Chg.refl 0 0 w) _).alloc _).alloc _
 obtain⟨z,b0,b1,b2⟩:=QW w (jG 30 sz st sq hd us) (.cells #[za t.seq,.slice po t.homes.length pcap,.slice ao t.revs.length cap] 35) (jG 30 0 0 0 0 0);clear hT p1 v1;obtain⟨rz,Hrz⟩: ∃rz:Int,Hid (rz=if jt sz st sq hd us t=true then((TL t).length:Int) else 0):=⟨_,rfl⟩;have hN: ∀W,Chg 0 0 w W→Calls Tryz.prog 26 #[j8 sz st sq hd us,.agg #[za t.seq,.slice po t.homes.length pcap,.slice ao t.revs.length cap]] W fun e w'=>e= .returned (za rz)∧Chg 0 0 W w':=fun W hW=>by rw[Hrz.out];exact YB W sz st sq hd us hl (by have:=hW.size;omega) hby (hM.chg hW (by omega)) (HT.out W hW)
 clear HT hM;go_enter Tryz.func13,Tryz.ntmps13;go_wp2_with fail;generalize ((w.alloc (jG 30 sz st sq hd us)).alloc (.cells #[za t.seq,.slice po t.homes.length pcap,.slice ao t.revs.length cap] 35)).alloc (jG 30 0 0 0 0 0)=w0 at*;refine(hN _ hA).mono ?_;rintro e w1 ⟨rfl,h1⟩;have HB0:Hid (w1.heap[w.heap.size]?=some (jG 30 sz st sq hd us)):=(h1.block _ (by omega) (by omega)).trans b0;have HB2:Hid (w1.heap[w.heap.size+1+1]?=some (jG 30 0 0 0 0 0)):=(h1.block _ (by omega) (by omega)).trans b2
 have HA:Hid (Chg 0 0 w w1):=hA.trans h1;clear h1 b0 b1 b2 hA hN;obtain⟨⟨y0,y1,y2,y3,y4⟩,yf0,yf1,yf2,yf3,yf4⟩:=Xd HB2.out;by_cases htk:jt sz st sq hd us t=true
 case neg=>
  have Ht:Hid (KD sz st sq hd us t=j8 0 0 0 0 0):=by show _=_;unfold KD;rw[if_neg htk]
  have hr:=Hrz.out;rw[if_neg htk] at hr;rw[hr];clear htk hr;go_wp2;rw[Ht.out];exact bodyPost_ret (v:=j8 0 0 0 0 0) (by simp[results,Tryz.results13,go_sem, *]) rfl ⟨rfl,by refine Chg.setCell (Chg.setCell (Chg.setCell (Chg.setCell (Chg.setCell HA.out ?_ _) ?_ _) ?_ _) ?_ _) ?_ _<;>refine Or.inr ?_<;>simp<;>omega⟩
 obtain⟨hIn,hvt,h_q,hlt,hle⟩:=YC htk;have hr:=Hrz.out;rw[if_pos htk] at hr;have Ht:Hid (KD sz st sq hd us t=j8 sz (if st=0 then hd else st) (sq+1) (qk sz hd rz) (us+rz)):=by show _=_;unfold KD;rw[if_pos htk,hr]
 have hn1:=EV hvt;have hn0:1≤rz:=by rw[hr];omega
 rw[←hr] at hle;have hne:(rz==0)=false:=by simp;omega
 unfold Z5 at hIn;obtain⟨⟨i1,i2⟩,⟨i3,i4⟩,⟨i5,i6⟩,⟨i7,i8⟩,i9,i10⟩:=hIn;have hpl:=fun W=>jo W sz hd rz i1 i2 i7 (by omega) (by omega) (by omega);clear htk hr h_q hvt hn1;have hw1:IntKind.i64.wrap (sq+1)=sq+1:=by rw[IntKind.wrap_i64];omega
 have hw2:IntKind.i64.wrap (us+rz)=us+rz:=by rw[IntKind.wrap_i64];omega
 generalize qk sz hd rz=pl at*;obtain⟨⟨x0,x1,x2,x3,x4⟩,xf0,xf1,xf2,xf3,xf4⟩:=Xd HB0.out;by_cases hst:st=0
 ·rw[if_pos hst] at Ht;go_wp2_with fail;refine(hpl _).mono ?_;rintro e w5 ⟨rfl,rfl⟩;go_wp2;rw[Ht.out];exact bodyPost_ret (v:=j8 sz hd (sq+1) pl (us+rz)) (by simp[results,Tryz.results13,go_sem, *]) rfl ⟨rfl,by refine Chg.setCell (Chg.setCell (Chg.setCell (Chg.setCell (Chg.setCell (Chg.setCell (Chg.setCell (Chg.setCell (Chg.setCell HA.out ?_ _) ?_ _) ?_ _) ?_ _) ?_ _) ?_ _) ?_ _) ?_ _) ?_ _<;>refine Or.inr ?_<;>simp<;>omega⟩
 ·rw[if_neg hst] at Ht;go_wp2_with fail;refine(hpl _).mono ?_;rintro e w5 ⟨rfl,rfl⟩;go_wp2;rw[Ht.out];exact bodyPost_ret (v:=j8 sz st (sq+1) pl (us+rz)) (by simp[results,Tryz.results13,go_sem, *]) rfl ⟨rfl,by refine Chg.setCell (Chg.setCell (Chg.setCell (Chg.setCell (Chg.setCell (Chg.setCell (Chg.setCell (Chg.setCell HA.out ?_ _) ?_ _) ?_ _) ?_ _) ?_ _) ?_ _) ?_ _) ?_ _<;>refine Or.inr ?_<;>simp<;>omega⟩
structure JQ (w x:World)(cur:List Value):Prop where
 b0:x.heap[w.heap.size]?=some (.cells cur.toArray 72 (0,0))
 b1:x.heap[w.heap.size+1]?=some (.cells Z64.toArray 72 (0,0))
 ch:Chg 0 0 w x
theorem JQ.lt {w x:World}{cur:List Value}(h:JQ w x cur):w.heap.size+1<x.heap.size:=(gLt h.b1)
theorem JQ.chg {w x y:World}{cur:List Value}(h:JQ w x cur)(c:Chg 0 0 x y):JQ w y cur:=
 have:=h.lt
 ⟨(c.block _ (by omega) (by omega)).trans h.b0,(c.block _ (by omega) (by omega)).trans h.b1,h.ch.trans c⟩
theorem JQ.put {w x y:World}{cur cur':List Value}(h:JQ w x cur)(c:Chg w.heap.size (w.heap.size+1) x y)(hb:y.heap[w.heap.size]?=some (.cells cur'.toArray 72 (0,0))):JQ w y cur':=
 have:=h.lt
 ⟨hb,(c.block _ (by omega) (by omega)).trans h.b1,h.ch.step c (by omega)⟩
theorem UI (w:World)(xa zs:List Int)(hx:xa.length=60)(hz:zs.length=4)(hB:Byt xa):
  Calls Tryz.prog 198 #[.agg ((xa++zs).map (Value.int .u8)).toArray] w fun e w'=>e= .returned (.agg ((xa++zk (jW xa) 4).map (Value.int .u8)).toArray)∧Chg 0 0 w w':=by
 obtain⟨hc0,hc1⟩:=qp xa;have Hc4:Hid ((zk (jW xa) 4).length=4):=pn4 hc0 hc1;have Hal:Hid (xa.length=60):=hx;have Hzl:Hid (zs.length=4):=hz;have HBy:Hid (Byt xa):=hB;obtain⟨cv,Hcv⟩: ∃cv,Hid (cv=jW xa):=⟨_,rfl⟩;have hcm:cv≤9223372036854775807:=by rw[Hcv.out];omega
 obtain⟨bs,Hbs⟩: ∃bs,Hid (bs=(xa++zs).map (Value.int .u8)):=⟨_,rfl⟩;have Hbl:Hid (bs.length=64):=by show _=_;rw[Hbs.out,List.length_map,List.length_append,hx,hz]
 have HE:Hid (JQ w ((w.alloc (.cells bs.toArray 72)).alloc (.cells Z64.toArray 72)) bs):=by
  obtain⟨z1,z2,z3⟩:=zN w (.cells bs.toArray 72) (.cells Z64.toArray 72);exact⟨z2,z3,(Chg.alloc (Chg.refl 0 0 w) _).alloc _⟩
 rw[←Hbs.out,←Hcv.out];rw[←Hcv.out] at Hc4;clear hx hz hB hc0 hc1;go_enter Tryz.func198,Tryz.ntmps198;go_upto_region 1 with fail;simp only[zM];generalize (w.alloc (.cells bs.toArray 72)).alloc (.cells Z64.toArray 72)=w4 at*;go_cut [7] (fun _ wx=>JQ w wx (splice bs 60 ((zk cv 4).map (Value.int .u8))))
 case first=>
  have HB1:Hid (JQ w w4.drew bs):=HE.out.chg (Chg.drew (Chg.refl 0 0 w4));have HS0:Hid ((fun _:World=>True) w4.drew):=trivial;refine zp (fun _:World=>True) (by kernel_rfl) ?_;refine hTk 0 (.slice (some ⟨w.heap.size,60,none⟩) 4 4) rfl (fun w' hw'=>by go_simp) HS0.out ?_;go_simp;refine hTk 1 (.slice (some (zd w.heap.size)) 60 64) rfl (fun w' hw'=>by go_simp) HS0.out ?_;go_simp;generalize w4.drew=x1 at*
  have hlt:=HB1.out.lt;have hvw:zr x1 w.heap.size (w.heap.size+1) .u8 (.slice (some (zd w.heap.size)) 60 64) xa:=by
   have h0:=HB1.out.b0;rw[Hbs.out] at h0;have hv:=KQ h0 0 60 64 (by rw[List.length_append,Hal.out];omega) (by rw[List.length_append,Hal.out,Hzl.out];decide) (by omega);rwa [List.drop_zero,List.take_append_of_le_length (by rw[Hal.out];exact Nat.le_refl _),List.take_of_length_le (by rw[Hal.out];exact Nat.le_refl _)] at hv
  have hN:=Ve x1 HBy.out hvw (by omega);rw[←Hcv.out] at hN;refine zg 2 rfl rfl (by kernel_rfl) ?_;refine zl 199 #[.slice (some (zd w.heap.size)) 60 64] (by first|kernel_rfl|go_simp) hN ?_;rintro e x2 ⟨rfl,c2⟩;have HB2:Hid (JQ w x2 bs):=HB1.out.chg c2;refine⟨_,rfl,trivial,?_⟩;clear hN hvw c2;go_simp;have hN:=jc x2 cv 4 (by omega);refine zg 3 rfl rfl (by kernel_rfl) ?_;refine zl 104 #[za cv,za 4] (by first|kernel_rfl|go_simp) hN ?_
  rintro e x3 ⟨r,rfl,o2,c2⟩;have HB3:Hid (JQ w x3 bs):=HB2.out.chg c2;obtain⟨g,gc,rfl,hcell⟩: ∃g gc,r= .slice (some (zd g)) 4 gc∧ ∀i,i<4→x3.cell? ⟨g,i,none⟩=some (zb ((zk cv 4).getD i 0)):=by
   have hv:=o2.view (hi:=x3.heap.size) (by rw[Hc4.out];omega) (fun g hg=>(o2.lt g hg).2);rcases o2.2 with⟨_,h0⟩|⟨g,gc,cur,rfl,_⟩
   ·rw[Hc4.out] at h0;omega
   ·refine⟨g,gc,by rw[Hc4.out],fun i hi=>hv.cellAt' i (by rw[Hc4.out];exact hi)⟩
  refine⟨_,rfl,trivial,?_⟩;have Hcell:Hid (∀i,i<4→x3.cell? ⟨g,i,none⟩=some (zb ((zk cv 4).getD i 0))):=hcell;clear hN o2 c2 hcell;go_simp;refine zg 4 rfl rfl (by kernel_rfl) ?_;refine jk (.tmp 3) (.tmp 6) 22 22 rfl 5 Tryz.underlying22 (by kernel_rfl) w.heap.size 60 4 4 (zd g) 4 gc rfl rfl bs 72 HB3.out.b0 ((zk cv 4).map (Value.int .u8)) (by rw[List.length_map,Hc4.out];rfl) ?_ (by rw[List.length_map,Hc4.out,Hbl.out];decide) (ints_oneCell _ _) ?_
  ·intro j v hj;have hj4:j<4:=by have:=(List.getElem?_eq_some_iff.1 hj).1;rwa [List.length_map,Hc4.out] at this
   have hjl:j<(zk cv 4).length:=by rw[Hc4.out];exact hj4
   rw[Addr.add_mid,Nat.zero_add,Hcell.out j hj4,←hj];simp[List.getD_eq_getElem?_getD,hjl]
  intro x4 hb4 hc4;have HB4:Hid (JQ w x4 (splice bs 60 ((zk cv 4).map (Value.int .u8)))):=HB3.out.put hc4 hb4.out;refine⟨trivial,?_⟩;clear hb4 hc4;go_simp;refine zt (by kernel_rfl) (NoPanic.normal ?_);go_wp2;go_meet;exact HB4.out
 case rest=>
  have hF:splice bs 60 ((zk cv 4).map (Value.int .u8))=(xa++zk cv 4).map (Value.int .u8):=by
   have hm:(xa.map (Value.int .u8)).length=60:=by rw[List.length_map];exact Hal.out
   have e1:bs.take 60=xa.map (Value.int .u8):=by
    rw[Hbs.out,List.map_append,List.take_append_of_le_length (by rw[hm];exact Nat.le_refl _),List.take_of_length_le (by rw[hm];exact Nat.le_refl _)]
   have e2:bs.drop (60+((zk cv 4).map (Value.int .u8)).length)= []:=by
    apply List.drop_eq_nil_of_le;rw[List.length_map,Hbl.out,Hc4.out];decide
   rw[List.map_append (l₁:=xa) (l₂:=zk cv 4)];unfold splice;rw[e1,e2,List.append_nil]
  rw[hF] at hcut;have hln:((xa++zk cv 4).map (Value.int .u8)).length=64:=by
   rw[List.length_map,List.length_append,Hal.out,Hc4.out]
  obtain⟨cs,hcs⟩: ∃cs,cs=(xa++zk cv 4).map (Value.int .u8):=⟨_,rfl⟩;have HV2:Hid (∀v∈cs,v.oneCell'=true):=by show∀v∈cs,v.oneCell'=true;rw[hcs];exact ints_oneCell _ _
  rw[←hcs] at hcut hln;have HBm:Hid (JQ w wc cs):=hcut;generalize wc=wf at*;have Hcs:Hid (cs=(xa++zk cv 4).map (Value.int .u8)):=hcs;have hics:(Tryz.prog.info? 72).map (·.size)=some cs.length:=by rw[hln];kernel_rfl
  have Hln:Hid (cs.length=64):=hln;have u44:=Tryz.underlying72;have HR:Hid (wf.rangeAt w.heap.size 0 cs):=zj HBm.out.b0;have hlt:=HBm.out.lt;clear hF hln hcs hcut HE;go_wp2_with (first
   |(refine wpList_load_mid rfl 72 (.tmp 1) rfl w.heap.size 0 rfl cs _ HR.out u44 rfl hics ?_)
   |(refine wpList_store_row rfl 72 (.tmp 2) (.tmp 8) rfl rfl (w.heap.size+1) rfl cs Z64 72 rfl HBm.out.b1 (by rw[zD];exact Hln.out) hics HV2.out ?_;intro wg hbg hcg))
  have HCg:Hid (Chg 0 0 w wg):=HBm.out.ch.step hcg (by omega);have hl1:(loadVar 72 (zd (w.heap.size+1))).run Tryz.prog wg= .ok (.agg cs.toArray) wg:=run_loadVar_mid _ _ _ _ cs _ (zj hbg) u44 rfl hics;go_wp2;exact bodyPost_ret (v:= .agg cs.toArray) (zu Tryz.results198 rfl hl1) rfl ⟨by rw[Hcs.out],HCg.out⟩
def jd (h0 h1 h2 h3 kd it sq st:Int):List Int:= [h0,h1,h2,h3,kd,0]++zk it 2++zk sq 4++zk st 2++List.replicate 46 0
def qJ (h0 h1 h2 h3 kd it sq st:Int):List Int:=jd h0 h1 h2 h3 kd it sq st++zk (jW (jd h0 h1 h2 h3 kd it sq st)) 4
theorem j6 {h0 h1 h2 h3 kd it sq st:Int}(hi2:(zk it 2).length=2)(hq4:(zk sq 4).length=4)(ht2:(zk st 2).length=2):(jd h0 h1 h2 h3 kd it sq st).length=60:=by
 unfold jd;simp[hi2,hq4,ht2]
abbrev jsO (t:TypeId) (h0 h1 h2 h3 kd it sq st:Int):Obj:= .cells #[zb h0,zb h1,zb h2,zb h3,za kd,za it,za sq,za st] t
theorem Q1 (w:World)(h0 h1 h2 h3 kd it sq st:Int)(hk0:0≤kd)(hk1:kd<256)(hi:it≤9223372036854775807)(hq:sq≤9223372036854775807)(ht:st≤9223372036854775807)(hi2:(zk it 2).length=2)(hq4:(zk sq 4).length=4)(ht2:(zk st 2).length=2)
  (hc4:(zk (jW (jd h0 h1 h2 h3 kd it sq st)) 4).length=4) (hB:Byt (jd h0 h1 h2 h3 kd it sq st)) (_:jW (jd h0 h1 h2 h3 kd it sq st)≤9223372036854775807):
  Calls Tryz.prog 196 #[.agg #[zb h0,zb h1,zb h2,zb h3,za kd,za it,za sq,za st]] w fun e w'=>e= .returned (.agg ((qJ h0 h1 h2 h3 kd it sq st).map (Value.int .u8)).toArray)∧Chg 0 0 w w':=by
 have hN:=fun w=>Z6 w h0 h1 h2 h3 kd it sq hk0 hk1 hi hq hi2 hq4;have Hi2:Hid _:=hi2;have Hq4:Hid _:=hq4;have Ht2:Hid _:=ht2;have Hc4:Hid _:=hc4;have HBy:Hid _:=hB;have hbl:=UV (h0:=h0) (h1:=h1) (h2:=h2) (h3:=h3) (kd:=kd) hi2 hq4;obtain⟨bs,Hbs⟩: ∃bs,Hid (bs=(XD h0 h1 h2 h3 kd it sq).map (Value.int .u8)):=⟨_,rfl⟩;have Hbl:Hid (bs.length=64):=by show _=_;rw[Hbs.out,List.length_map];exact hbl
 have HV:Hid (∀v∈bs,v.oneCell'=true):=by show∀v∈bs,v.oneCell'=true;rw[Hbs.out];exact ints_oneCell _ _
 rw[←Hbs.out] at hN;have hib:(Tryz.prog.info? 72).map (·.size)=some bs.length:=by rw[Hbl.out];kernel_rfl
 obtain⟨z1,z2,z3⟩:=zN w (jsO 182 h0 h1 h2 h3 kd it sq st) (.cells Z64.toArray 72);have hA:Chg 0 0 w ((w.alloc (jsO 182 h0 h1 h2 h3 kd it sq st)).alloc (.cells Z64.toArray 72)):=(Chg.alloc (Chg.refl 0 0 w) _).alloc _;have HZ:Hid (_∧_∧_∧_):=⟨z1,z2,z3,hA⟩;clear z1 z2 z3 hA hi2 hq4 ht2 hc4 hbl hB;go_enter Tryz.func196,Tryz.ntmps196;go_wp2_with fail;simp only[zM];generalize ((w.alloc (jsO 182 h0 h1 h2 h3 kd it sq st)).alloc (.cells Z64.toArray 72))=wa at*
 refine(hN wa).mono ?_;rintro e w2 ⟨rfl,hc2⟩;have HE:Hid (Enc w (w2.alloc (.cells Z64.toArray 72)) w2.heap.size (jsO 182 h0 h1 h2 h3 kd it sq st) Z64):=by
  obtain⟨z1,z2,z3,hA⟩:=HZ.out;have s2:=hc2.size;have hc3:Chg 0 0 wa (w2.alloc (.cells Z64.toArray 72)):=hc2.alloc _;exact⟨(hc3.block _ (by omega) (by omega)).trans z2,(hc3.block _ (by omega) (by omega)).trans z3,zh _ _,by omega,hA.trans hc3⟩
 clear hN hc2 HZ;have hg:=HE.out.b2;rw[←zM] at hg;have Hg:Hid (_=_):=hg;clear hg;go_upto_region 2 with(first
  |(refine wpList_store_row rfl 72 (.tmp 3) (.tmp 6) rfl rfl w2.heap.size rfl bs _ 72 rfl Hg.out (by rw[Hbl.out];rfl) hib HV.out ?_;intro w3 hb3 hc3))
 simp only[zM] at hc3;clear Hg;have HE3:Hid _:=HE.out.put hc3 hb3;have hlo:=HE3.out.lo;generalize w2.heap.size=N at*;clear hb3 hc3 HE;go_cut [11] (fun _ wx=>Enc w wx N (jsO 182 h0 h1 h2 h3 kd it sq st) (splice bs 12 ((zk st 2).map (Value.int .u8))))
 case first=>
  have HB1:Hid _:=HE3.out.chg (Chg.drew (Chg.refl 0 0 w3));have HS0:Hid ((fun w':World=>w'.cell? ⟨w.heap.size,7,none⟩=some (za st)) w3.drew):=by
   have hb:=HB1.out.b0;show _=_;simp[World.cell?,hb]
  refine zp (fun w':World=>w'.cell? ⟨w.heap.size,7,none⟩=some (za st)) (by kernel_rfl) ?_;refine hTk 0 (.slice (some ⟨N,12,none⟩) 52 52) rfl (fun w' hw'=>by go_simp) HS0.out ?_;go_simp;refine hTk 1 (.pointer (some ⟨w.heap.size,7,none⟩)) rfl (fun w' hw'=>by go_simp) HS0.out ?_;go_simp;refine hTk 2 (za st) rfl (fun w' hw'=>by have h4:w'.cell? _=_:=hw';go_simp) HS0.out ?_;go_simp;generalize w3.drew=x1 at*
  have hlt:=HB1.out.lt;have hN:=jc x1 st 2 (by omega);refine zg 3 rfl rfl (by kernel_rfl) ?_;refine zl 104 #[za st,za 2] (by first|kernel_rfl|go_simp) hN ?_;rintro e x2 ⟨r,rfl,o2,c2⟩;have HB2:Hid _:=HB1.out.chg c2;have HS2:Hid _:=c2.cell HS0.out (by omega);obtain⟨g,gc,rfl,hcell⟩: ∃g gc,r= .slice (some (zd g)) 2 gc∧ ∀i,i<2→x2.cell? ⟨g,i,none⟩=some (zb ((zk st 2).getD i 0)):=by
   have hv:=o2.view (hi:=x2.heap.size) (by rw[Ht2.out];omega) (fun g hg=>(o2.lt g hg).2);rcases o2.2 with⟨_,h0⟩|⟨g,gc,cur,rfl,_⟩
   ·rw[Ht2.out] at h0;omega
   ·refine⟨g,gc,by rw[Ht2.out],fun i hi=>hv.cellAt' i (by rw[Ht2.out];exact hi)⟩
  refine⟨_,rfl,HS2.out,?_⟩;have Hcell:Hid _:=hcell;clear hN o2 c2 hcell;go_simp;refine zg 4 rfl rfl (by kernel_rfl) ?_;refine jk (.tmp 7) (.tmp 10) 22 22 rfl 5 Tryz.underlying22 (by kernel_rfl) N 12 52 52 (zd g) 2 gc rfl rfl bs 72 HB2.out.b2 ((zk st 2).map (Value.int .u8)) (by rw[List.length_map,Ht2.out];rfl) ?_ (by rw[List.length_map,Ht2.out,Hbl.out];decide) (ints_oneCell _ _) ?_
  ·intro j v hj;have hj4:j<2:=by have:=(List.getElem?_eq_some_iff.1 hj).1;rwa [List.length_map,Ht2.out] at this
   have hjl:j<(zk st 2).length:=by rw[Ht2.out];exact hj4
   rw[Addr.add_mid,Nat.zero_add,Hcell.out j hj4,←hj];simp[List.getD_eq_getElem?_getD,hjl]
  intro x3 hb3 hc3;have HB4:Hid _:=HB2.out.put hc3 hb3.out;have HS3:Hid _:=hc3.cell HS2.out (by omega);refine⟨HS3.out,?_⟩;clear hb3 hc3;go_simp;refine zt (by kernel_rfl) (NoPanic.normal ?_);go_wp2;go_meet;exact HB4.out
 case rest=>
  have hF:splice bs 12 ((zk st 2).map (Value.int .u8))=(jd h0 h1 h2 h3 kd it sq st++ [0,0,0,0]).map (Value.int .u8):=by
   rw[Hbs.out];unfold XD jd
   match h2':zk it 2,Hi2.out,h4':zk sq 4,Hq4.out,h5':zk st 2,Ht2.out with
   | [a,b],_,[c,d,e,f],_,[g,h],_=>unfold splice;rfl
  rw[hF] at hcut;have hal:=j6 (h0:=h0) (h1:=h1) (h2:=h2) (h3:=h3) (kd:=kd) Hi2.out Hq4.out Ht2.out;have hN2:=fun W=>UI W (jd h0 h1 h2 h3 kd it sq st) [0,0,0,0] hal rfl HBy.out;have hbl:((jd h0 h1 h2 h3 kd it sq st++ [0,0,0,0]).map (Value.int .u8)).length=64:=by rw[List.length_map,List.length_append,hal];rfl
  have hcl:((jd h0 h1 h2 h3 kd it sq st++zk (jW (jd h0 h1 h2 h3 kd it sq st)) 4).map (Value.int .u8)).length=64:=by rw[List.length_map,List.length_append,hal,Hc4.out]
  obtain⟨ds,hds⟩: ∃ds,ds=(jd h0 h1 h2 h3 kd it sq st++ [0,0,0,0]).map (Value.int .u8):=⟨_,rfl⟩;obtain⟨cs,hcs⟩: ∃cs,cs=(jd h0 h1 h2 h3 kd it sq st++zk (jW (jd h0 h1 h2 h3 kd it sq st)) 4).map (Value.int .u8):=⟨_,rfl⟩;have HV2:Hid (∀v∈cs,v.oneCell'=true):=by show∀v∈cs,v.oneCell'=true;rw[hcs];exact ints_oneCell _ _
  have Hcs:Hid (cs=(qJ h0 h1 h2 h3 kd it sq st).map (Value.int .u8)):=hcs;rw[←hds,←hcs] at hN2;rw[←hds] at hcut hbl;rw[←hcs] at hcl;have HBm:Hid _:=hcut;generalize wc=wf at*;have hids:(Tryz.prog.info? 72).map (·.size)=some ds.length:=by rw[hbl];kernel_rfl
  have hics:(Tryz.prog.info? 72).map (·.size)=some cs.length:=by rw[hcl];kernel_rfl
  have Hcl:Hid _:=hcl;have u44:=Tryz.underlying72;have HR:Hid _:=zj HBm.out.b2;have hlt:=HBm.out.lt;clear hF hal hbl hcl hds hcs hcut HE3;go_wp2_with (refine wpList_load_mid rfl 72 (.tmp 3) rfl N 0 rfl ds _ HR.out u44 rfl hids ?_);refine(hN2 wf).mono ?_;rintro e x2 ⟨rfl,c2⟩;have HB2:Hid _:=HBm.out.chg c2;clear hN2 c2 HBm HR;go_wp2_with (refine wpList_store_row rfl 72 (.tmp 2) (.tmp 13) rfl rfl (w.heap.size+1) rfl cs Z64 72 rfl HB2.out.b1 (by rw[zD];exact Hcl.out) hics HV2.out ?_;intro wg hbg hcg)
  have HCg:Hid (Chg 0 0 w wg):=HB2.out.ch.step hcg (by omega);have hl1:(loadVar 72 (zd (w.heap.size+1))).run Tryz.prog wg= .ok (.agg cs.toArray) wg:=run_loadVar_mid _ _ _ _ cs _ (zj hbg) u44 rfl hics;go_wp2;exact bodyPost_ret (v:= .agg cs.toArray) (zu Tryz.results196 rfl hl1) rfl ⟨by rw[Hcs.out],HCg.out⟩
theorem YA {h0 h1 h2 h3 kd it sq st:Int}(hi2:(zk it 2).length=2)(hq4:(zk sq 4).length=4)(ht2:(zk st 2).length=2)(hc4:(zk (jW (jd h0 h1 h2 h3 kd it sq st)) 4).length=4):(qJ h0 h1 h2 h3 kd it sq st).length=64:=by
 unfold qJ;rw[List.length_append,j6 hi2 hq4 ht2,hc4]
structure OkS (it sq st:Int):Prop where
 a1:1≤sq
 a2:sq≤4294967295
 a3:16≤it
 a4:it≤512
 a5:0≤st
 a6:st≤it
end Go.Proofs.YtacjklochmelfaaGreatDoor
