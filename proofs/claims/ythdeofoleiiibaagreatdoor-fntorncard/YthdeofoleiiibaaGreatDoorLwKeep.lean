import Derived.Test.YthdeofoleiiibaaGreatDoorLogInj
namespace Go.Proofs.YthdeofoleiiibaaGreatDoor
open Go.RowKit
set_option maxRecDepth 100000
set_option maxHeartbeats 16000000
variable {w W W':World}{lo hi sz st hi' g cap pc JB OB:Nat}{a tv:Value}{sq:Int}{d:Obj}{pa:Option Addr}{dO:Array Value}
abbrev sk:= @Value.agg.injEq
theorem NE {o:Oper}{a:Act}{K:Act→World→Prop}{Q:Exit→Act→World→Prop}(s x:Operand)
  (n:o.op= .call {callee:= .builtin .append,args:= #[s,x],argTypes:= #[33,33]})
  (base:Nat) (e:Value) (xs:List Int) (hs:a.eval s=e) (l:zM w base 2 e xs) (b:base≤w.heap.size) (lo hi:Nat) (u:Value) (ys:List Int) (p:a.eval x=u) (v:zC w lo hi .i64 u ys) (m:xs.length+ys.length≤1048576)
  (h: ∀j w',zM w' base 2 j (xs++ys)→zr base w.heap.size w w'→K (a.put o.dst j) w'):o.wp Tryz.prog a w K Q:=by
 by_cases h0:0<ys.length
 ·exact Xn s x n base e xs hs l b lo hi u ys p v h0 m h
 ·obtain rfl:ys= []:=nT zk;obtain⟨i,hi',q,r,t⟩:=na Tryz.infoI;obtain⟨y,cap,rfl,_,⟨_,A⟩,_⟩:=v;have c:=l
  cases y with
  |none=>
   obtain rfl:=A rfl;have g:=run_append_owned_none (P:=Tryz.prog) (w:=w) base 33 o.type 2 i 1 Tryz.underlying33 hi' e xs.length _ c;have:=h e w (by rw[nw];exact l) (zr.refl _ _ _);unfold Oper.wp;simp[execOp,n,resolve,invoke,builtin,hs,p,g,Result.andThen];exact this
  |some ad=>
   refine oS _ s x 33 n base 2 i (za 0) 1 8 Tryz.underlying33 hi' q r t rfl zp e xs.length (xs.map (Value.int .i64)) hs c ad 0 cap [] p rfl zn zn (by unfold maxLen;simp at m;omega) (by simp at m;omega) b ?_;intro j B f d _;refine h j B ?_ (zr.ofGrown d (fun k z _=>np c k z));unfold zM;rw[nw];simpa using f
structure NxI (w W:World)(d:Obj):Prop where
 c:zr 0 0 w W
 s:w.heap.size+2≤W.heap.size
 d:W.heap[w.heap.size]?=some d
 z:W.heap[w.heap.size+1]?=some (zi #[za 0,zc,zc] 35)
theorem NxI.grow (h:NxI w W d)(c:zr 0 0 W W'):NxI w W' d:=by
 have:=h.s;exact⟨h.c.trans c,nz h.s c.size,c.bt h.d,c.bt h.z⟩
structure CAt (w W:World)(d:Obj)(B:Nat):Prop where
 i:NxI w W d
 s:w.heap.size+2≤B∧B<W.heap.size
 b:W.heap[B]?=some (zi #[.bool false,za 0,za 0,za 0] 220)
theorem CAt.grow {B:Nat}(h:CAt w W d B)(c:zr 0 0 W W'):CAt w W' d B:=⟨h.i.grow c,⟨h.s.1,nE h.s.2 c.size⟩,(c.bk _ h.s.2).trans h.b⟩
theorem CAt.new (h:NxI w W d):CAt w (W.alloc (zi #[.bool false,za 0,za 0,za 0] 220)) d W.heap.size:=⟨h.grow (zr.al W),⟨h.s,zn⟩,zt _ _⟩
theorem Vm {wy:World}{B:Nat}{cs:Array Value}(h:CAt w W d B)(b:wy.heap[B]?=some (zi cs 220))(a:zr B (B+1) W wy):NxI w wy d∧(w.heap.size+2≤B∧B<wy.heap.size)∧wy.heap[B]?=some (zi cs 220):=by
 have h1:=h.s;have h2:=a.size;exact⟨⟨h.i.c.step a,zk,a.bt h.i.d,a.bt h.i.z⟩,⟨h1.1,zk⟩,b⟩
def NxA (w w':World) (lo hi:Int) (bs:List (List Int)) (q:Int) (e:Ending):Prop:=((∃t hv rv,e= .returned (.tuple #[.agg #[za q,hv,rv],za ((TL t).length:Int),.bool true])∧Nx lo hi bs q t∧qB w' w.heap.size hv rv t)∨(e= .returned (.tuple #[.agg #[za 0,zc,zc],za 0,.bool false])∧ ∀t,¬Nx lo hi bs q t))∧zr 0 0 w w'
theorem aT (F:Nat→FB)(sz p:Nat){n m:Nat}(h:n≤m):(win F sz p m).take n=win F sz p n:=by
 rw[show m=n+(m-n) by omega,Xv,List.take_left' (ji _ _ _ _)]
theorem Vx {w5:World}(h:zr 0 0 w w5)(a b c:Value):zr (w.heap.size+1) (w.heap.size+2) w5 (((w5.setCell (zd (w.heap.size+1)) a).setCell ⟨w.heap.size+1,1,none⟩ b).setCell ⟨w.heap.size+1,2,none⟩ c)∧zr 0 0 w (((w5.setCell (zd (w.heap.size+1)) a).setCell ⟨w.heap.size+1,1,none⟩ b).setCell ⟨w.heap.size+1,2,none⟩ c):=by
 have d:zr (w.heap.size+1) (w.heap.size+2) w5 (((w5.setCell (zd (w.heap.size+1)) a).setCell ⟨w.heap.size+1,1,none⟩ b).setCell ⟨w.heap.size+1,2,none⟩ c):=by
  refine zr.setCell (zr.setCell (zr.setCell (zr.refl _ _ _) ?_ _) ?_ _) ?_ _<;>exact Or.inl ⟨mP _,m5 _⟩
 exact⟨d,h.step d⟩
theorem Nh (w:World){p left pl:Nat}{D:List Int}{F:Nat→FB}(q:Int)(hv:zC w lo hi .u8 (zg g D.length cap) D)(hD:D.length≤1048576)(bw:16≤sz∧sz≤512)(hp:p<sz)(hl:left≤sz)(U:gy D sz F):
  Calls Tryz.prog 89 #[.agg #[zg g D.length cap,zj pa pl pc],za sz,za ((p+1:Nat):Int),za q,za left] w fun e w'=>NxA w w' ((sz:Int)+2) (((D.length/64:Nat):Int)-1) ((win F sz p left).map FB.bs) q e:=by
 have ba:Hid (∀(W:World) (i:Nat),zr 0 0 w W→Calls Tryz.prog 42 #[zg g D.length cap,za ((1+((p+i) % sz+1):Nat):Int)] W fun e w'=> ∃v,e= .returned v∧zu w' W.heap.size 5 v (F ((p+i) % sz)).bs∧zr 0 0 W w'):=fun W i C=>by
  have hm:=nF (p+i) (show 0<sz by omega);obtain⟨h1,h2,h3⟩:=U _ hm;have:=Qf W (k:=2+(p+i) % sz) (hv.chg C zk) h3 hD;rw[h2] at this;rw[show 1+((p+i) % sz+1)=2+(p+i) % sz by omega];exact this
 have aN:Hid (∀(W:World) (i:Nat),i≤512→Calls Tryz.prog 41 #[za sz,za ((p+1:Nat):Int),za i] W fun e w'=>e= .returned (za (((p+i) % sz+1:Nat):Int))∧w'=W):=fun W i hi=>by
  have:=ZB W (sz:Int) ((p+1:Nat):Int) (i:Int);rw[Y9] at this;exact this
 have aJ:Hid (∀(W:World) (n:Nat),zr 0 0 w W→n≤sz→_):=fun W n C hn=>bO (pa:=pa) (pl:=pl) (pc:=pc) W (hv.chg C zk) hD bw hp hn U;have bg:Hid (∀(W:World) (n:Nat) (g' c':Nat),n≤sz→zu W 0 5 (zg g' (64*n) c') ((win F sz p n).map FB.bs).flatten→Calls Tryz.prog 133 #[zg g' (64*n) c'] W fun e w'=>mp W w' (win F sz p n) e):=fun W n g' c' hn ho=>by
  have h1:=ji F sz p n;have:=YI W (xs:=win F sz p n) (cap:=c') (g:=g') (dj U zk p n) zk (by rw[h1];exact ho.seen (by rw[Jz (kD U zk p n),mO,h1];omega));rw[h1] at this;exact this
 have be:Hid (∀i,(F ((p+i) % sz)).ok):=fun i=>(U _ (nF _ zk)).1;have bh:Hid (∀n,∀x∈win F sz p n,x.ok):=fun n=>dj U zk p n;have az:Hid (∀n,n+1≤left→ ∀t,Nx ((sz:Int)+2) (((D.length/64:Nat):Int)-1) ((win F sz p left).map FB.bs) q t→(TL t).length=n+1→TL t=(win F sz p (n+1)).map FB.bs∧ ∃s,F ((p+n) % sz)= .com q (n:Int) s):=fun n hn t E u=>by
  have e:=E.p;rw[u,←rD,aT F sz p hn] at e;refine⟨e,?_⟩;rw[Ux] at e;obtain⟨s,hs⟩:=kI E.g.v E.g.b (by rw[←Ux];exact bh.out _) e;exact⟨s,by rw[hs,E.s,ji]⟩
 have ao:Hid (∀t,Nx ((sz:Int)+2) (((D.length/64:Nat):Int)-1) ((win F sz p left).map FB.bs) q t→2≤(TL t).length∧(TL t).length≤left):=fun t E=>⟨gC E.g.v,by
  have:=nI List.length E.p;rw[mW,mO,ji] at this;omega⟩
 have ay:Hid (∀n t,n≤left→qy t→(∀x∈t.homes,Byt x.2)→TL t=(win F sz p n).map FB.bs→t.seq=q→(∀x∈t.homes.map (·.1)++t.rV,(sz:Int)+2≤x∧x<((D.length/64:Nat):Int))→Nx ((sz:Int)+2) (((D.length/64:Nat):Int)-1) ((win F sz p left).map FB.bs) q t∧(TL t).length=n):=fun n t hn h1 h2 h3 h4 h5=>by
  have u:(TL t).length=n:=by rw[h3,mO,ji]
  refine⟨⟨⟨h1,h2,fun x hx=>?_,fun x hx=>?_⟩,h4,?_⟩,u⟩
  ·have:=h5 x.1 (nu.2 (Or.inl (m9.2 ⟨x,hx,rfl⟩)));exact⟨this.1,zk⟩
  ·have:=h5 x (nu.2 (Or.inr hx));exact⟨this.1,zk⟩
  ·rw[u,←rD,aT F sz p hn];exact h3
 obtain⟨p1,a8⟩: ∃p1:Nat,p1=p+1:=⟨_,rfl⟩;rw[←a8] at aN aJ⊢;obtain⟨nb,a4⟩: ∃nb,nb=D.length/64:=⟨_,rfl⟩;have aj:=fun W=>QM W (some (zd g)) D.length cap (zj pa pl pc);have bB:nb≤20000:=zk;rw[←a4] at az ay ao aj⊢;obtain⟨P,hP⟩: ∃P:Tx→Prop,P=Nx ((sz:Int)+2) ((nb:Int)-1) ((win F sz p left).map FB.bs) q:=⟨_,rfl⟩;rw[←hP] at az ay ao;have R:Hid _:=hP;clear U hv a8 hp a4 hP;generalize D.length=DL at*;have aw:Hid (NxI w ((w.alloc (zi #[zg g DL cap,zj pa pl pc] 26)).alloc (zi #[za 0,zc,zc] 35)) (zi #[zg g DL cap,zj pa pl pc] 26)):=by
  obtain⟨z1,z2,z3⟩:=zU w (zi #[zg g DL cap,zj pa pl pc] 26) (zi #[za 0,zc,zc] 35);exact⟨(zr.al w).alloc _,zk,z2,z3⟩
 obtain⟨d0,d1,-,-⟩:=zw aw.out.d;go_enter Tryz.func89,Tryz.ntmps89;go_wp2_with fail;clear d0 d1;generalize (w.alloc (zi #[zg g DL cap,zj pa pl pc] 26)).alloc (zi #[za 0,zc,zc] 35)=w0 at*;refine(aj w0).mono ?_;rintro e w1 ⟨rfl,c1⟩;have aK:Hid _:=aw.out.grow c1;clear c1 aw aj;go_wp2;go_loopw [14] (fun s14 wr=> ∃(n:Nat),s14=za ((n+1:Nat):Int)∧(1≤n∧n≤left+1)∧(∀t,P t→n+1≤(TL t).length)∧NxI w wr (zi #[zg g DL cap,zj pa pl pc] 26)) (fun s14 _=>left+2-(intOf s14).toNat)
 case atStart=>exact⟨1,rfl,zk,fun t E=>(ao.out t E).1,aK.out⟩
 case round=>
  obtain⟨n,rfl,hn,au,hI⟩:=hrel;clear aK;have HM:Hid _:=au;have HI:Hid _:=hI;clear au hI;by_cases a5:n+1≤left
  case neg=>
   have bu: ¬((n+1:Nat):Int)≤(left:Int):=zk;obtain⟨⟨z1,z2,z3⟩,f4,f5,f6⟩:=tri HI.out.z;have HF:Hid _:=fun u0 u1 u2=>(Vx HI.out.c u0 u1 u2).2;have G:Hid (∀t,¬P t):=fun t E=>by have:=HM.out t E;have:=(ao.out t E).2;omega
   clear HI HM;go_wp2;refine mT (v:= .tuple #[.agg #[za 0,zc,zc],za 0,.bool false]) (by simp[results,Tryz.results89,go_sem, *]) rfl ⟨Or.inr ⟨rfl,?_⟩,HF.out _ _ _⟩;rw[←R.out];exact G.out
  have bE:((n+1:Nat):Int)≤(left:Int):=zk;have wn:IntKind.i64.wrap (((n+1:Nat):Int)+1)=((n+1+1:Nat):Int):=by rw[mS];omega
  have wm:IntKind.i64.wrap (((n+1:Nat):Int)-1)=(n:Int):=by rw[mS];omega
  obtain⟨k,hk⟩: ∃k:Nat,Hid (k=(p+n) % sz+1):=⟨_,rfl⟩;have bD:k≤512:=by have:=nF (p+n) (show 0<sz by omega);rw[hk.out];omega
  have HP:=fun W=>aN.out W n zk;have HB:=fun W h=>ba.out W n h;have a7:=be.out n;have hC:=az.out n a5;rw[←hk.out] at HP HB;have HC:Hid _:=hC;have wk:IntKind.i64.wrap (1+(k:Int))=((1+k:Nat):Int):=by rw[mS];omega
  have bH:((n+1:Nat):Int)-1=(n:Int):=zk;have bI:IntKind.i64.wrap (n:Int)=(n:Int):=by rw[mS];omega
  clear hC;generalize F ((p+n) % sz)=x at*;obtain⟨cg,cq,cc,cs,aG⟩: ∃g q c s,cmV x=rV4 g q c s:=by cases x using FB.el<;>exact⟨_,_,_,_,rfl⟩
  have S:Hid _:=aG;have af:Hid (∀(W:World) (a:Value) (lo hi:Nat),zC W lo hi .u8 a x.bs→Calls Tryz.prog 132 #[a] W fun e w'=>e= .returned (rV4 cg cq cc cs)∧zr 0 0 W w'):=fun W a lo hi hv=>by
   have:=eJ W a7 hv;rw[aG] at this;exact this
  clear aG;have a3:=FB.len a7;go_upto_region 5 with fail;go_cut [15] (fun s15 wx=> ∃B,s15=zh B∧NxI w wx (zi #[zg g DL cap,zj pa pl pc] 26)∧(w.heap.size+2≤B∧B<wx.heap.size)∧wx.heap[B]?=some (zi #[.bool cg,za cq,za cc,za cs] 220))
  case first=>
   have HS:Hid _:=HI.out.d;have Q:Hid _:=HI.out.grow (zr.drew (zr.refl 0 0 wr));refine hRg (fun w':World=>w'.heap[w.heap.size]?=some (zi #[zg g DL cap,zj pa pl pc] 26)) ?_;clear HI HS;generalize wr.drew=X at*;have HS:Hid _:=Q.out.d;refine hT2 0 (zh w.heap.size) rfl ?_;go_simp;refine hTk 1 (zg g DL cap) rfl (fun w' V=>by obtain⟨h4,h5,-,-⟩:=zw V;go_simp) HS.out ?_;go_simp;refine hT2 2 (za sz) rfl ?_
   go_simp;refine hT2 3 (za p1) rfl ?_;go_simp;refine hT2 4 (za ((n+1:Nat):Int)) rfl ?_;go_simp;refine hT2 5 (za n) rfl ?_;go_simp;refine qY 6 10 rfl rfl rfl rfl zl ?_ ?_
   ·refine zv 41 #[za sz,za p1,za n] zq (HP X) ?_;rintro e Xc ⟨rfl,hX⟩;subst Xc;refine⟨_,rfl,Q.out.d,?_⟩;go_simp;refine hTk 7 (za ((1+k:Nat):Int)) rfl (fun w' V=>zm) Q.out.d ?_;go_simp;refine qY 8 10 rfl rfl rfl rfl zl ?_ ?_
    ·refine zv 42 #[zg g DL cap,za ((1+k:Nat):Int)] zq (HB X Q.out.c) ?_;rintro e Xc ⟨v,rfl,o,c⟩;have av:Hid _:=Q.out.grow c;have aS:Hid (zC Xc X.heap.size Xc.heap.size .u8 v x.bs):=o.seen zk;obtain⟨ea,la,ca,rfl⟩:=zF o;clear o c;refine⟨_,rfl,av.out.d,?_⟩;go_simp;refine qY 9 10 rfl rfl rfl rfl zl ?_ ?_
     ·refine zv 132 #[zj ea la ca] zq (af.out _ _ _ _ aS.out) ?_;rintro e aW ⟨rfl,c⟩;have ar:Hid _:=av.out.grow c;clear c;refine⟨_,rfl,ar.out.d,?_⟩;go_simp;refine hOn 10 rfl ?_;have O:Hid _:=CAt.new ar.out;go_simp;refine⟨O.out.i.d,?_⟩;generalize aW.alloc (zi #[.bool false,za 0,za 0,za 0] 220)=bz at*;generalize aW.heap.size=BB at*;refine hOn 11 rfl ?_;refine wsR [.bool cg,za cq,za cc,za cs] O.out.b ?_
      intro wy hy cy;have HR:Hid _:=Vm O.out hy cy;refine⟨HR.out.1.d,hDn ?_⟩;clear hy cy;go_wp2;go_meet;exact⟨BB,rfl,HR.out⟩
     ·have aq:Hid _:=CAt.new av.out;have aU:Hid (zC _ _ _ .u8 (zj ea la ca) x.bs):=aS.out.chg (zr.alloc (zr.refl 0 0 Xc) (zi #[.bool false,za 0,za 0,za 0] 220)) zk;go_simp;refine⟨aq.out.i.d,?_⟩;generalize Xc.alloc (zi #[.bool false,za 0,za 0,za 0] 220)=bC at*;generalize Xc.heap.size=BB at*;refine hOn 9 rfl ?_;refine zv 132 #[zj ea la ca] zq (af.out _ _ _ _ aU.out) ?_;rintro e bx ⟨rfl,c⟩;have N:Hid _:=aq.out.grow c
      clear c;refine⟨_,rfl,N.out.i.d,?_⟩;go_simp;refine hOn 11 rfl ?_;refine wsR [.bool cg,za cq,za cc,za cs] N.out.b ?_;intro wy hy cy;have HR:Hid _:=Vm N.out hy cy;refine⟨HR.out.1.d,hDn ?_⟩;clear hy cy;go_wp2;go_meet;exact⟨BB,rfl,HR.out⟩
    ·have I:Hid _:=CAt.new Q.out;go_simp;refine⟨I.out.i.d,?_⟩;generalize X.alloc (zi #[.bool false,za 0,za 0,za 0] 220)=Xa at*;generalize X.heap.size=BB at*;refine hOn 8 rfl ?_;refine zv 42 #[zg g DL cap,za ((1+k:Nat):Int)] zq (HB Xa I.out.i.c) ?_;rintro e aE ⟨v,rfl,o,c⟩;have J:Hid _:=I.out.grow c;have ai:Hid _:=o.seen zk;obtain⟨ea,la,ca,rfl⟩:=zF o;clear o c;refine⟨_,rfl,J.out.i.d,?_⟩;go_simp;refine hOn 9 rfl ?_
     refine zv 132 #[zj ea la ca] zq (af.out _ _ _ _ ai.out) ?_;rintro e aV ⟨rfl,c⟩;have f:Hid _:=J.out.grow c;clear c;refine⟨_,rfl,f.out.i.d,?_⟩;go_simp;refine hOn 11 rfl ?_;refine wsR [.bool cg,za cq,za cc,za cs] f.out.b ?_;intro wy hy cy;have HR:Hid _:=Vm f.out hy cy;refine⟨HR.out.1.d,hDn ?_⟩;clear hy cy;go_wp2;go_meet;exact⟨BB,rfl,HR.out⟩
   ·have I:Hid _:=CAt.new Q.out;go_simp;refine⟨I.out.i.d,?_⟩;generalize X.alloc (zi #[.bool false,za 0,za 0,za 0] 220)=Xa at*;generalize X.heap.size=BB at*;refine hOn 6 rfl ?_;refine zv 41 #[za sz,za p1,za n] zq (HP Xa) ?_;rintro e aE ⟨rfl,hX⟩;subst aE;refine⟨_,rfl,I.out.i.d,?_⟩;go_simp;refine hTk 7 (za ((1+k:Nat):Int)) rfl (fun w' V=>zm) I.out.i.d ?_;go_simp;refine hOn 8 rfl ?_;refine zv 42 #[zg g DL cap,za ((1+k:Nat):Int)] zq (HB Xa I.out.i.c) ?_
    rintro e aE ⟨v,rfl,o,c⟩;have J:Hid _:=I.out.grow c;have ai:Hid _:=o.seen zk;obtain⟨ea,la,ca,rfl⟩:=zF o;clear o c;refine⟨_,rfl,J.out.i.d,?_⟩;go_simp;refine hOn 9 rfl ?_;refine zv 132 #[zj ea la ca] zq (af.out _ _ _ _ ai.out) ?_;rintro e aV ⟨rfl,c⟩;have f:Hid _:=J.out.grow c;clear c;refine⟨_,rfl,f.out.i.d,?_⟩;go_simp;refine hOn 11 rfl ?_;refine wsR [.bool cg,za cq,za cc,za cs] f.out.b ?_;intro wy hy cy
    have HR:Hid _:=Vm f.out hy cy;refine⟨HR.out.1.d,hDn ?_⟩;clear hy cy;go_wp2;go_meet;exact⟨BB,rfl,HR.out⟩
  case rest=>
   obtain⟨B,rfl,aZ,bF,bo⟩:=hcut;have Y:Hid _:=aZ;clear aZ HI HP HB af a3;obtain⟨⟨c0,c1,c2,c3⟩,-,-,-,-⟩:=qO bo;have l:Hid (¬(cg=true∧cq=q∧cc=(n:Int))→ ∀t,P t→n+1+1≤(TL t).length):=fun ae t E=>by
    have h1:=HM.out t E;by_cases e:(TL t).length=n+1
    ·exfalso;obtain⟨-,s,hs⟩:=HC.out t E e;rw[hs] at S;have:=S.out;simp only[cmV,rV4,sk] at this;simp at this;exact ae ⟨this.1,this.2.1.symm,this.2.2.1.symm⟩
    ·omega
   by_cases hg:cg=true
   case neg=>
    obtain rfl:cg=false:=by simpa using hg
    have G:Hid _:=l.out (fun h=>hg h.1);clear l HC HM S hg;go_wp2;go_roundw
    case rel=>exact⟨n+1,rfl,zk,G.out,Y.out⟩
    case measure=>simp[intOf];omega
   subst hg;by_cases hq:cq=q
   case neg=>
    have G:Hid _:=l.out (fun h=>hq h.2.1);have ae:(cq !=q)=true:=by simp[hq]
    clear l HC HM S hq;go_wp2;go_roundw
    case rel=>exact⟨n+1,rfl,zk,G.out,Y.out⟩
    case measure=>simp[intOf];omega
   subst hq;by_cases C:cc=(n:Int)
   case neg=>
    have G:Hid _:=l.out (fun h=>C h.2.2);have ae:(cc !=(n:Int))=true:=by simp[C]
    clear l HC HM S C;go_wp2;go_roundw
    case rel=>exact⟨n+1,rfl,zk,G.out,Y.out⟩
    case measure=>simp[intOf];omega
   subst C;clear l;have aY:=aJ.out wc (n+1) Y.out.c zk;obtain⟨d0,d1,-,-⟩:=zw Y.out.d;go_wp2_with fail;clear d0 d1 c0 c1 c2 c3;refine aY.mono ?_;rintro e w3 ⟨g3,bn,rfl,o3,c3⟩;have ax:Hid _:=Y.out.grow c3;have a0:=bg.out w3 (n+1) g3 bn zk (o3.base (fun _ _=>mX _));clear aY o3 c3;generalize 64*(n+1)=L3 at*;go_wp2_with fail;refine a0.mono ?_;rintro e w4 ⟨a9,c4⟩;have ag:Hid _:=ax.out.grow c4;have aL:Hid _:=ax.out.s
   clear a0 c4 ax;have l:Hid ((∀t,P t→(TL t).length≠n+1)→ ∀t,P t→n+1+1≤(TL t).length):=fun ae t E=>by
    have h1:=HM.out t E;have h2:=ae t E;omega
   rcases a9 with⟨t,hv,rv,rfl,am,aF,hO⟩|⟨rfl,a6⟩
   case inr=>
    have G:Hid _:=l.out (fun t E e=>a6 t (R.out▸E:Nx _ _ _ _ t).g.v (R.out▸E:Nx _ _ _ _ t).g.b (HC.out t E e).1);have Z:Hid _:=ag.out.grow (zr.alloc (zr.refl 0 0 w4) (zi #[.bool false,za 0,zc,zc] 223));have hz:=zt w4 (zi #[.bool false,za 0,zc,zc] 223);obtain⟨⟨z0,z1,z2,z3⟩,-,-,-,-⟩:=qO hz;clear hz l HC HM S a6 ag;go_wp2;go_roundw
    case rel=>exact⟨n+1,rfl,zk,G.out,Z.out⟩
    case measure=>simp[intOf];omega
   obtain⟨⟨ha,C,rfl,-⟩,⟨ra,rc,rfl,-⟩,aI,hcn⟩:=hO.view;obtain⟨A,bq⟩: ∃hn,Hid (hn=t.homes.length):=⟨_,rfl⟩;obtain⟨rn,bv⟩: ∃rn,Hid (rn=t.rV.length):=⟨_,rfl⟩;rw[←bq.out,←bv.out] at hO⊢;have ah:Hid (∀t',P t'→(TL t').length=n+1→t'=t):=fun t' M e=>by
    have h1:=R.out▸M;exact lP h1.g.v h1.g.b am aI ((HC.out t' M e).1.trans aF.symm)
   have C5:zr 0 0 w4 (w4.alloc (zi #[.bool true,za t.seq,zj ha A C,zj ra rn rc] 223)):=zr.al w4;have Z:Hid _:=ag.out.grow C5;have ad:Hid _:=zt w4 (zi #[.bool true,za t.seq,zj ha A C,zj ra rn rc] 223);have K:Hid (∀W,zr 0 0 (w4.alloc (zi #[.bool true,za t.seq,zj ha A C,zj ra rn rc] 223)) W→qB W w3.heap.size (zj ha A C) (zj ra rn rc) t):=fun W c=>hO.keep (fun j aX T _ _ hh=>((C5.trans c).bk j (zE hh)).trans hh)
   have H:Hid _:=And.intro am (And.intro aI aF);have s3:=ag.out.s;have s5:w4.heap.size<(w4.alloc (zi #[.bool true,za t.seq,zj ha A C,zj ra rn rc] 223)).heap.size:=zn;have bj:Hid _:=aL.out;clear C5 hO am aI aF ag HC HM S;obtain⟨⟨z0,z1,z2,z3⟩,-,-,-,-⟩:=qO ad.out;by_cases hq:t.seq=cq
   case neg=>
    have ae:(t.seq !=cq)=true:=by simp[hq]
    have G:Hid _:=l.out (fun t' M e=>by
     have e1:=ah.out t' M e;have h1:=R.out▸M;exact hq (by rw[←e1];exact h1.s))
    clear hq ah l ad K H;go_wp2;go_roundw
    case rel=>exact⟨n+1,rfl,zk,G.out,Z.out⟩
    case measure=>simp[intOf];omega
   have Hq:Hid _:=hq;rw[hq] at z1 ad Z K s5⊢;clear hq;go_upto_region 10 with fail;clear z0 z1 z2 z3;generalize w4.alloc (zi #[.bool true,za cq,zj ha A C,zj ra rn rc] 223)=w5 at*;generalize w4.heap.size=RB at*;obtain⟨zs,ab⟩: ∃zs,Hid (zs=t.homes.map (·.1)++t.rV):=⟨_,rfl⟩;have aB:Hid (zs.length≤30000):=by
    show _≤_;obtain⟨es,-,h2,-,-,h5,h6⟩:=K.out w5 (zr.refl _ _ _);rw[ab.out,mL,mO,←h2,mO];omega
   go_cut [18] (fun s18 wx=> ∃a c,s18=zj a zs.length c∧zM wx w5.heap.size 2 s18 zs∧zr 0 0 w5 wx)
   case first=>
    refine hRg (fun w':World=>w'.heap[RB]?=some (zi #[.bool true,za cq,zj ha A C,zj ra rn rc] 223)) ?_;have HS:Hid (w5.drew.heap[RB]?=_):=ad.out;have aC:Hid _:=zr.drew (zr.refl 0 0 w5);generalize w5.drew=X at*;refine hT2 0 (.pointer (some ⟨RB,1,none⟩)) rfl ?_;go_simp;refine hT2 1 (.pointer (some ⟨RB,2,none⟩)) rfl ?_;go_simp;refine hTk 2 (zj ha A C) rfl (fun w' V=>by obtain⟨⟨h2,h3,h4,h5⟩,-,-,-,-⟩:=qO V;go_simp) HS.out ?_
    go_simp;refine hT2 4 (.pointer (some ⟨RB,1,none⟩)) rfl ?_;go_simp;refine hT2 5 (.pointer (some ⟨RB,3,none⟩)) rfl ?_;go_simp;refine hTk 6 (zj ra rn rc) rfl (fun w' V=>by obtain⟨⟨h2,h3,h4,h5⟩,-,-,-,-⟩:=qO V;go_simp) HS.out ?_;go_simp;refine hOn 3 rfl ?_;refine zv 91 #[zj ha A C] zq (QO X (by obtain⟨es,-,h2,-,-,-,h6⟩:=K.out w5 (zr.refl _ _ _);rw[←h2,mO];omega) (K.out X aC.out).view.1) ?_;rintro e X1 ⟨v1,rfl,o1,c1⟩
    have s6:=aC.out.size;have s7:=c1.size;have aO:Hid _:=c1.bt HS.out;have aQ:Hid _:=aC.out.trans c1;have bc:Hid (zM X1 w5.heap.size 2 v1 (t.homes.map (·.1))):=o1.lowI;obtain⟨e1,l1,bl,rfl⟩:=zF o1;clear o1 c1;refine⟨_,rfl,aO.out,?_⟩;go_simp;refine hOn 7 rfl ?_;refine NE (.tmp 74) (.tmp 77) rfl w5.heap.size (zj e1 l1 bl) (t.homes.map (·.1)) rfl bc.out zk w3.heap.size X1.heap.size (zj ra rn rc) t.rV rfl (K.out X1 aQ.out).view.2.1 (by have:=aB.out;rw[ab.out,mL] at this;omega) ?_
    intro v2 X2 o2 c2;rw[←ab.out] at o2;have aP:Hid _:=c2.bt aO.out;have bi:Hid _:=aQ.out.step c2;obtain⟨a2,bm,rfl⟩:=o2.sl';have bd:Hid _:=o2;clear o2 c2;refine⟨aP.out,?_⟩;go_simp;refine hOn 8 rfl ?_;go_simp;refine⟨aP.out,hDn ?_⟩;go_wp2;go_meet;exact⟨a2,bm,rfl,bd.out,bi.out⟩
   case rest=>
    obtain⟨aa,ac,rfl,aH,ap⟩:=hcut;have an:Hid _:=Z.out.grow ap;have aD:Hid _:=(ap.bk _ s5).trans ad.out;have aA:Hid _:=K.out wc ap;have aM:Hid (∀i,i<zs.length→ ∃b,aa=some (zd b)∧wc.cell? ⟨b,i,none⟩=some (za (zs.getD i 0))):=fun i hi=>by
     rcases aH.2 with⟨_,e⟩|⟨b,cap,aX,e,_⟩
     ·omega
     ·simp only[ns] at e;refine⟨b,e.1,?_⟩;obtain⟨rfl,-,rfl⟩:=e;rw[nA aH i zk];simp[hi]
    obtain⟨m,Hm⟩: ∃m,Hid (m=zs.length):=⟨_,rfl⟩;rw[←Hm.out] at aM aB⊢;clear aH ap Z ad K;go_wp2;go_loopw [17,19] (fun s17 s19 wr=> ∃(i:Nat) (b:Bool),(s17= .bool b∧s19=za i)∧i≤m∧(b=true↔ ∀j,j<i→(sz:Int)+2≤zs.getD j 0∧zs.getD j 0<(nb:Int))∧wr=wc) (fun _ s19 _=>m-(intOf s19).toNat)
    case atStart=>exact⟨0,true,⟨rfl,rfl⟩,mX _,⟨fun _ j hj=>absurd hj (nW j),fun _=>rfl⟩,rfl⟩
    case round=>
     obtain⟨i,b,⟨rfl,rfl⟩,hi,hb,hw⟩:=hrel;subst hw;have Hb:Hid _:=hb;clear hb;have bG:IntKind.i64.wrap (2+(sz:Int))=2+(sz:Int):=by rw[mS];omega
     by_cases br:i<m
     ·have bA:(i:Int)<(m:Int):=zk;have wi:IntKind.i64.wrap ((i:Int)+1)=((i+1:Nat):Int):=by have:=aB.out;rw[mS];omega
      obtain⟨bb,rfl,bp⟩:=aM.out i br;have L:Hid (∀c:Bool,(c=true↔ (b=true∧(sz:Int)+2≤zs.getD i 0∧zs.getD i 0<(nb:Int)))→(c=true↔ ∀j,j<i+1→(sz:Int)+2≤zs.getD j 0∧zs.getD j 0<(nb:Int))):=fun c C=>by
       rw[C,Hb.out];refine⟨fun h j hj=>?_,fun h=>⟨fun j hj=>h j zk,h i zk⟩⟩;by_cases e:j=i
       ·rw[e];exact h.2
       ·exact h.1 j zk
      generalize zs.getD i 0=z at*
      cases b with
      |false=>
       have G:Hid _:=L.out false zn;clear L;go_wp2;go_roundw
       case rel=>exact⟨i+1,false,⟨rfl,rfl⟩,zk,G.out,trivial⟩
       case measure=>simp[intOf];omega
      |true=>
       by_cases h1:2+(sz:Int)≤z
       ·by_cases h2:z<(nb:Int)
        ·have G:Hid _:=L.out true (by simp;omega);clear L;go_wp2;go_roundw
         case rel=>exact⟨i+1,true,⟨rfl,rfl⟩,zk,G.out,trivial⟩
         case measure=>simp[intOf];omega
        ·have G:Hid _:=L.out false (by simp;omega);clear L;go_wp2;go_roundw
         case rel=>exact⟨i+1,false,⟨rfl,rfl⟩,zk,G.out,trivial⟩
         case measure=>simp[intOf];omega
       ·have G:Hid _:=L.out false (by simp;omega);clear L;go_wp2;go_roundw
        case rel=>exact⟨i+1,false,⟨rfl,rfl⟩,zk,G.out,trivial⟩
        case measure=>simp[intOf];omega
     ·obtain rfl:i=m:=zk;have bu: ¬(i:Int)<(i:Int):=zk;have ak: ∀x∈zs,∃j,j<i∧x=zs.getD j 0:=fun x hx=>by
       obtain⟨j,hj,e⟩:=List.getElem_of_mem hx;exact⟨j,by rw[Hm.out];exact hj,by rw[mV,mZ hj,e];rfl⟩
      cases b with
      |false=>
       have G:Hid _:=l.out (fun t' M e=>by
        have e1:=ah.out t' M e;have h1:=R.out▸M;rw[e1] at h1;have:=Hb.out.2 (fun j hj=>by
         have a1:zs.getD j 0∈zs:=by rw[mV,mZ (by rw[←Hm.out];exact hj)];exact nj _
         rw[ab.out] at a1;rw[ab.out];generalize (t.homes.map (·.1)++t.rV).getD j 0=z at*;rcases nu.1 a1 with h|h
         ·obtain⟨y,hy,rfl⟩:=m9.1 h;have:=h1.g.h y hy;omega
         ·have:=h1.g.r z h;omega)
        cases this)
       clear ak ah l H aA aD;go_wp2;go_roundw
       case rel=>exact⟨n+1,rfl,zk,G.out,an.out⟩
       case measure=>simp[intOf];omega
      |true=>
       obtain⟨hP,u⟩:=ay.out (n+1) t a5 H.out.1 H.out.2.1 H.out.2.2 Hq.out (fun x hx=>by
        obtain⟨j,hj,rfl⟩:=ak x (by rw[ab.out];exact hx);exact Hb.out.1 rfl j hj)
       have bf:Hid _:=hP;have aR:Hid _:=u;obtain⟨⟨z0,z1,z2,z3⟩,-,-,-,-⟩:=qO aD.out;obtain⟨⟨y1,y2,y3⟩,f4,f5,f6⟩:=tri an.out.z;have HF:Hid (∀u0 u1 u2:Value,qB (((wr.setCell (zd (w.heap.size+1)) u0).setCell ⟨w.heap.size+1,1,none⟩ u1).setCell ⟨w.heap.size+1,2,none⟩ u2) w.heap.size (zj ha A C) (zj ra rn rc) t∧zr 0 0 w (((wr.setCell (zd (w.heap.size+1)) u0).setCell ⟨w.heap.size+1,1,none⟩ u1).setCell ⟨w.heap.size+1,2,none⟩ u2)):=fun u0 u1 u2=>by
        obtain⟨c1,c2⟩:=Vx an.out.c u0 u1 u2;have:=bj.out;exact⟨(qB.keep aA.out (fun j aX T hj _ hh=>(c1.bk j (zE hh)).trans hh)).low zk,c2⟩
       clear hP u ak ah l H aA aD an;go_wp2;refine mT (v:= .tuple #[.agg #[za cq,zj ha A C,zj ra rn rc],za ((n:Int)+1),.bool true]) (by simp[results,Tryz.results89,go_sem, *]) rfl ⟨Or.inl ⟨t,_,_,?_,?_,(HF.out _ _ _).1⟩,(HF.out _ _ _).2⟩
       ·rw[aR.out];rfl
       ·rw[←R.out];exact bf.out
theorem kq (c q s:Int):Byt (qz 106 108 111 103 1 c q s):=(YK c q s).app (qE _ _)
theorem Em (w:World){c q s:Int}(h:OkS c q s)(j:zC w lo hi .u8 a (qz 106 108 111 103 1 c q s)):Calls Tryz.prog 21 #[a] w fun e w'=>e= .returned (rV4 true c s q)∧zr 0 0 w w':=by
 obtain⟨f,g,b,i,d⟩:=aI h;unfold hd7 at b;simp at b;refine KX w (kq c q s) j ?_ d b.2.2.2.2.2.1 i b.2.2.2.2.2.2 (fun W=>Q9 W c s q h (YK c q s));unfold kindOf;rw[mM ⟨d,f,zk⟩];exact g
structure SnI (w W:World)(dO:Array Value)(JB OB:Nat)(sz st:Nat)(sq:Int)(us:List Tx)(tv:Value):Prop where
 c:zr 0 0 w W
 s:w.heap.size+2≤JB∧JB<OB∧OB<W.heap.size
 d:W.heap[w.heap.size]?=some (zi dO 26)
 z:W.heap[w.heap.size+1]?=some (zi #[za 0,za 0,za 0,za 0,zc] 47)
 j:W.heap[JB]?=some (zi #[.bool true,za sz,za st,za sq] 55)
 o:W.heap[OB]?=some (zi #[za 0,za sz,za st,za sq,tv] 47)
 t: ∃hs rs,qQ W (OB+1) tv us hs rs
theorem SnI.grow {us:List Tx}(h:SnI w W dO JB OB sz st sq us tv)(c:zr 0 0 W W'):SnI w W' dO JB OB sz st sq us tv:=by
 obtain⟨hs,rs,a⟩:=h.t;have:=h.s;have b:=fun i hi=>c.bk i hi;exact⟨h.c.trans c,⟨h.s.1,h.s.2.1,nE h.s.2.2 c.size⟩,(b _ zk).trans h.d,(b _ zk).trans h.z,(b _ zk).trans h.j,(b _ zk).trans h.o,hs,rs,a.chg c⟩
theorem SnI.more {us us':List Tx}{tv':Value}{hs rs:List Value}(h:SnI w W dO JB OB sz st sq us tv)(g:qQ W' (OB+1) tv' us' hs rs)(c:zr (OB+1) W'.heap.size W W')
  (k: ∀(j:Nat) (a:Array Value) (T:TypeId),T≠35→W.heap[j]?=some (zi a T)→W'.heap[j]?=some (zi a T)):W'.heap[OB]?=some (zi #[za 0,za sz,za st,za sq,tv] 47)∧SnI w (W'.setCell ⟨OB,4,none⟩ tv') dO JB OB sz st sq us' tv':=by
 have f:=h.s;have n:=k _ _ _ zp h.o;have cs:=c.size;have e:zr OB (OB+1) W' (W'.setCell ⟨OB,4,none⟩ tv'):=zr.setCell (p:=⟨OB,4,none⟩) (zr.refl _ _ _) (Or.inl ⟨mP _,m5 _⟩) _;have b:=fun i hi l=>e.block i hi l;refine⟨n,(h.c.step c).step e,⟨f.1,f.2.1,by have:=e.size;omega⟩,(b _ zk zk).trans (k _ _ _ zp h.d),(b _ zk zk).trans (k _ _ _ zp h.z),(b _ zk zk).trans (k _ _ _ zp h.j),jS n _,hs,rs,?_⟩;exact⟨zR g.row (qh.chg e),g.hl,g.rl,fun i hi=>(g.el i hi).keep (fun j a T q _ m=>(e.bk j (zE m)).trans m)⟩
theorem Zz {s:Nat}{b c d e:Value}{t:TypeId}(h:w.heap[s]?=some (zi #[a,b,c,d,e] t)):
  (w.cell? (zd s)=some a∧w.cell? ⟨s,1,none⟩=some b∧w.cell? ⟨s,2,none⟩=some c∧w.cell? ⟨s,3,none⟩=some d∧w.cell? ⟨s,4,none⟩=some e)∧ ∀i,w.frozen? ⟨s,i,none⟩=false:=by
 refine⟨⟨?_,?_,?_,?_,?_⟩,fun i=>by simp[World.frozen?,h]⟩<;>simp[World.cell?,h]
def ScA (w w':World) (sz st:Nat) (sq lo hi:Int) (bs:List (List Int)) (e:Ending):Prop:= ∃tv us,e= .returned (.agg #[za 0,za sz,za st,za sq,tv])∧Vr w' w.heap.size tv us∧zr 0 0 w w'∧us.length≤512∧(st≠0→SpR lo hi bs sq us)
theorem SnI.fin {us:List Tx}(h:SnI w W dO JB OB sz st sq us tv)(d e f g k:Value):Vr (((((W.setCell (zd (w.heap.size+1)) d).setCell ⟨w.heap.size+1,1,none⟩ e).setCell ⟨w.heap.size+1,2,none⟩ f).setCell ⟨w.heap.size+1,3,none⟩ g).setCell ⟨w.heap.size+1,4,none⟩ k) w.heap.size tv us∧zr 0 0 w (((((W.setCell (zd (w.heap.size+1)) d).setCell ⟨w.heap.size+1,1,none⟩ e).setCell ⟨w.heap.size+1,2,none⟩ f).setCell ⟨w.heap.size+1,3,none⟩ g).setCell ⟨w.heap.size+1,4,none⟩ k):=by
 have b:zr (w.heap.size+1) (w.heap.size+2) W (((((W.setCell (zd (w.heap.size+1)) d).setCell ⟨w.heap.size+1,1,none⟩ e).setCell ⟨w.heap.size+1,2,none⟩ f).setCell ⟨w.heap.size+1,3,none⟩ g).setCell ⟨w.heap.size+1,4,none⟩ k):=by
  refine zr.setCell (zr.setCell (zr.setCell (zr.setCell (zr.setCell (zr.refl _ _ _) ?_ _) ?_ _) ?_ _) ?_ _) ?_ _<;>exact Or.inl ⟨mP _,m5 _⟩
 obtain⟨hs,rs,a⟩:=h.t;have:=h.s;exact⟨⟨hs,rs,qQ.low ⟨zR a.row (qh.chg b zk),a.hl,a.rl,fun i hi=>(a.el i hi).keep (fun j m T n _ l=>(b.bk j (zE l)).trans l)⟩⟩,h.c.step b⟩
theorem Up (w:World){n:Nat}{d:Dsk}{F:Nat→FB}(h1:Zw w lo hi (.agg #[zg g d.dR.length cap,zj pa 0 pc]) d)(M:qF d n sz F st sq)(hq:sq≤4294867295):
  Calls Tryz.prog 44 #[.agg #[zg g d.dR.length cap,zj pa 0 pc]] w fun e w'=>ScA w w' sz st sq ((sz:Int)+2) ((n:Int)-1) ((win F sz (st-1) sz).map FB.bs) e:=by
 have hV:zC w lo hi .u8 (zg g d.dR.length cap) d.dR:=by
  obtain⟨dv,pv,e,h2,-⟩:=id h1;simp only[sk,td,pF] at e;rw[e.1];exact h2
 have hb:=M.big;have av:=M.dR;have m:=M.sb;have ai:gy d.dR sz F:=fun j hj=>⟨M.ok j hj,by have:=M.at' j hj;unfold blk at this;unfold Vu;rw[ry 64];exact this,zk⟩;have Z:d.dR.length/64=n:=zk;have HN:Hid (∀(W:World) (p left:Nat) (q:Int),zr 0 0 w W→p<sz→left≤sz→Calls Tryz.prog 89 #[.agg #[zg g d.dR.length cap,zj pa 0 pc],za sz,za ((p+1:Nat):Int),za q,za left] W fun e w'=>NxA W w' ((sz:Int)+2) ((n:Int)-1) ((win F sz p left).map FB.bs) q e):=fun W p left q D hp hl=>by
  have:=Nh (pa:=pa) (pl:=0) (pc:=pc) W q (hV.chg D zk) zk ⟨hb.2.2.1,hb.2.2.2⟩ hp hl ai;rw[Z] at this;exact this
 have ao:Hid (∀W,zr 0 0 w W→Calls Tryz.prog 87 #[.agg #[zg g d.dR.length cap,zj pa 0 pc]] W fun e w'=>e= .returned (.bool true)∧zr 0 0 W w'):=fun W D=>by
  have:=Vh W (h1.chg D zk);rw[jJ M.valid] at this;exact this
 have ac:Hid (∀W,Calls Tryz.prog 88 #[.agg #[zg g d.dR.length cap,zj pa 0 pc]] W fun e w'=>e= .returned (za n)∧zr 0 0 W w'):=fun W=>by
  have:=QM W (some (zd g)) d.dR.length cap (zj pa 0 pc);rw[Z] at this;exact this
 have an:Hid (∀W,zr 0 0 w W→Calls Tryz.prog 42 #[zg g d.dR.length cap,za 1] W fun e w'=> ∃v,e= .returned v∧zu w' W.heap.size 5 v (qz 106 108 111 103 1 (sz:Int) sq (st:Int))∧zr 0 0 W w'):=fun W D=>by
  have:=Qf W (k:=1) (hV.chg D zk);rw[show Vu d.dR 1=qz 106 108 111 103 1 (sz:Int) sq (st:Int) from by have:=M.sup;unfold blk at this;unfold Vu;rw[ry 64];exact this] at this;exact this
 have HS:Hid (OkS (sz:Int) sq (st:Int)):=⟨m.2.1,m.2.2,zk,zk,m.1.1,m.1.2⟩;have aS:st≤sz:=by have:=m.1.2;omega
 have aP:=m.2.1;have aK:=hb.2.1;have aL:=hb.2.2;have aM:=hb.1;clear hV ai M h1 av Z m hb;generalize d.dR.length=DL at*;obtain⟨z1,z2,z3⟩:=zU w (zi #[zg g DL cap,zj pa 0 pc] 26) (zi #[za 0,za 0,za 0,za 0,zc] 47);have Q:Hid ((zr 0 0 w ((w.alloc (zi #[zg g DL cap,zj pa 0 pc] 26)).alloc (zi #[za 0,za 0,za 0,za 0,zc] 47))∧w.heap.size+2≤((w.alloc (zi #[zg g DL cap,zj pa 0 pc] 26)).alloc (zi #[za 0,za 0,za 0,za 0,zc] 47)).heap.size)∧((w.alloc (zi #[zg g DL cap,zj pa 0 pc] 26)).alloc (zi #[za 0,za 0,za 0,za 0,zc] 47)).heap[w.heap.size]?=some (zi #[zg g DL cap,zj pa 0 pc] 26)∧((w.alloc (zi #[zg g DL cap,zj pa 0 pc] 26)).alloc (zi #[za 0,za 0,za 0,za 0,zc] 47)).heap[w.heap.size+1]?=some (zi #[za 0,za 0,za 0,za 0,zc] 47)):=⟨⟨(zr.al w).alloc _,zk⟩,z2,z3⟩
 obtain⟨d0,d1,-,-⟩:=zw z2;clear z1 z2 z3;have aO: ¬((0:Nat):Int)>0:=zk;go_enter Tryz.func44,Tryz.ntmps44;go_wp2_with fail;clear d0 d1;generalize (w.alloc (zi #[zg g DL cap,zj pa 0 pc] 26)).alloc (zi #[za 0,za 0,za 0,za 0,zc] 47)=w0 at*;refine(ao.out w0 Q.out.1.1).mono ?_;rintro e w1 ⟨rfl,C⟩;have R:Hid ((zr 0 0 w w1∧w.heap.size+2≤w1.heap.size)∧w1.heap[w.heap.size]?=some (zi #[zg g DL cap,zj pa 0 pc] 26)∧w1.heap[w.heap.size+1]?=some (zi #[za 0,za 0,za 0,za 0,zc] 47)):=by
  have h:=Q.out;exact⟨⟨h.1.1.trans C,nz h.1.2 C.size⟩,C.bt h.2.1,C.bt h.2.2⟩
 clear C Q;obtain⟨d0,d1,-,-⟩:=zw R.out.2.1;go_wp2_with fail;clear d0 d1;refine(ac.out w1).mono ?_;rintro e w2 ⟨rfl,c2⟩;have E:Hid ((zr 0 0 w w2∧w.heap.size+2≤w2.heap.size)∧w2.heap[w.heap.size]?=some (zi #[zg g DL cap,zj pa 0 pc] 26)∧w2.heap[w.heap.size+1]?=some (zi #[za 0,za 0,za 0,za 0,zc] 47)):=by
  have h:=R.out;exact⟨⟨h.1.1.trans c2,nz h.1.2 c2.size⟩,c2.bt h.2.1,c2.bt h.2.2⟩
 clear c2 R;obtain⟨d0,d1,-,-⟩:=zw E.out.2.1;have ay: ¬(n:Int)<2:=zk;go_wp2_with fail;clear d0 d1;refine(an.out w2 E.out.1.1).mono ?_;rintro e w3 ⟨v3,rfl,o3,c3⟩;have ag:=Em w3 HS.out (o3.seen (by rw[YL HS.out];omega));obtain⟨e3,l3,aI,rfl⟩:=zF o3;have aa:Hid ((zr 0 0 w w3∧w.heap.size+2≤w3.heap.size)∧w3.heap[w.heap.size]?=some (zi #[zg g DL cap,zj pa 0 pc] 26)∧w3.heap[w.heap.size+1]?=some (zi #[za 0,za 0,za 0,za 0,zc] 47)):=by
  have h:=E.out;exact⟨⟨h.1.1.trans c3,nz h.1.2 c3.size⟩,c3.bt h.2.1,c3.bt h.2.2⟩
 clear c3 E o3 ay;go_wp2_with fail;refine ag.mono ?_;rintro e y ⟨rfl,c4⟩;have C5:zr 0 0 y (y.alloc (zi #[.bool true,za sz,za st,za sq] 55)):=zr.al y;have r:Hid (((zr 0 0 w (y.alloc (zi #[.bool true,za sz,za st,za sq] 55))∧w.heap.size+2≤y.heap.size)∧y.heap.size<(y.alloc (zi #[.bool true,za sz,za st,za sq] 55)).heap.size)∧(y.alloc (zi #[.bool true,za sz,za st,za sq] 55)).heap[w.heap.size]?=some (zi #[zg g DL cap,zj pa 0 pc] 26)∧(y.alloc (zi #[.bool true,za sz,za st,za sq] 55)).heap[w.heap.size+1]?=some (zi #[za 0,za 0,za 0,za 0,zc] 47)∧(y.alloc (zi #[.bool true,za sz,za st,za sq] 55)).heap[y.heap.size]?=some (zi #[.bool true,za sz,za st,za sq] 55)):=by
  have h:=aa.out;have K:=c4.trans C5;have:=c4.size;exact⟨⟨⟨h.1.1.trans K,zk⟩,zn⟩,K.bt h.2.1,K.bt h.2.2,zt _ _⟩
 clear c4 C5 aa ag;go_upto_region 6 with fail;generalize y.alloc (zi #[.bool true,za sz,za st,za sq] 55)=w5 at*;generalize y.heap.size=JB at*;go_cut [40] (fun s40 wx=>s40= .bool false∧zr 0 0 w5 wx)
 case first=>
  refine hRg (fun w':World=>w'.heap[w.heap.size]?=some (zi #[zg g DL cap,zj pa 0 pc] 26)∧w'.heap[JB]?=some (zi #[.bool true,za sz,za st,za sq] 55)) ?_;have HSS:Hid (w5.drew.heap[w.heap.size]?=_∧w5.drew.heap[JB]?=_):=⟨r.out.2.1,r.out.2.2.2⟩;have ap:Hid _:=zr.drew (zr.refl 0 0 w5);have aZ:IntKind.i64.wrap (2+(sz:Int))=2+(sz:Int):=by rw[mS];omega
  have aN: ¬(n:Int)<2+(sz:Int):=zk;generalize w5.drew=X at*;refine hTk 0 (zh JB) rfl (fun w' b=>zm) HSS.out ?_;go_simp;refine hTk 1 (.bool true) rfl (fun w' b=>by obtain⟨⟨h2,h3,h4,h5⟩,-,-,-,-⟩:=qO b.2;go_simp) HSS.out ?_;go_simp;refine hTk 2 (.bool false) rfl (fun w' b=>zm) HSS.out ?_;go_simp;refine hTk 3 (.bool false) rfl (fun w' b=>zm) HSS.out ?_;go_simp;refine hTk 4 (.agg #[zg g DL cap,zj pa 0 pc]) rfl (fun w' b=>by obtain⟨h2,h3,-,-⟩:=zw b.1;go_simp) HSS.out ?_
  go_simp;refine hTk 6 (.pointer (some ⟨JB,1,none⟩)) rfl (fun w' b=>zm) HSS.out ?_;go_simp;refine hTk 7 (.pointer (some ⟨JB,1,none⟩)) rfl (fun w' b=>zm) HSS.out ?_;go_simp;refine hTk 8 (za sz) rfl (fun w' b=>by obtain⟨⟨h2,h3,h4,h5⟩,-,-,-,-⟩:=qO b.2;go_simp) HSS.out ?_;go_simp;refine hTk 9 (za (2+(sz:Int))) rfl (fun w' b=>zm) HSS.out ?_;go_simp;refine Jj 5 rfl zl zl ?_;refine zv 88 #[.agg #[zg g DL cap,zj pa 0 pc]] zq (ac.out X) ?_
  rintro e X1 ⟨rfl,C⟩;have S:Hid (_∧_):=⟨(C.bk _ (zE HSS.out.1)).trans HSS.out.1,(C.bk _ (zE HSS.out.2)).trans HSS.out.2⟩;have aq:Hid _:=ap.out.trans C;clear C;refine⟨_,rfl,S.out,?_⟩;go_simp;refine hTk 10 (.bool false) rfl (fun w' b=>zm) S.out ?_;go_simp;refine hTk 11 (.bool false) rfl (fun w' b=>zm) S.out ?_;go_simp;refine hDn ?_;go_wp2;go_meet;exact⟨rfl,aq.out⟩
 case rest=>
  obtain⟨rfl,H⟩:=hcut;have l:Hid (SnI w (wc.alloc (zi #[za 0,za sz,za st,za sq,zc] 47)) #[zg g DL cap,zj pa 0 pc] JB wc.heap.size sz st sq [] (zc)):=by
   have h:=r.out;have C6:zr 0 0 wc (wc.alloc (zi #[za 0,za sz,za st,za sq,zc] 47)):=zr.al wc;have K:=H.trans C6;have:=H.size;exact⟨h.1.1.1.trans K,⟨h.1.1.2,zk,zn⟩,K.bt h.2.1,K.bt h.2.2.1,(K.bk _ h.1.2).trans h.2.2.2,zt _ _,[],[],qQ.nil _ _⟩
  obtain⟨⟨j0,j1,j2,j3⟩,-,-,-,-⟩:=qO ((H.bk _ r.out.1.2).trans r.out.2.2.2);have aQ: ¬sq>4294867295:=zk;have aG: ¬(4294867295:Int)<sq:=zk;clear H r;go_upto_region 11 with fail;clear j0 j1 j2 j3;generalize wc.alloc (zi #[za 0,za sz,za st,za sq,zc] 47)=w7 at*;generalize wc.heap.size=OB at*;obtain⟨⟨j0,j1,j2,j3⟩,-,-,-,-⟩:=qO l.out.j;by_cases i:st=0
  ·have hz:((st:Int)==0)=true:=by simp[i]
   have Hz:Hid _:=i;obtain⟨⟨o0,o1,o2,o3,o4⟩,-⟩:=Zz l.out.o;obtain⟨⟨r0,r1,r2,r3,r4⟩,x⟩:=Zz l.out.z;have f0:=x 0;have f1:=x 1;have f2:=x 2;have f3:=x 3;have f4:=x 4;have HF:Hid _:=l.out.fin;clear l i x;go_wp2;exact mT (v:= .agg #[za 0,za sz,za st,za sq,zc]) (by simp[results,Tryz.results44,go_sem, *]) rfl ⟨_,[],rfl,(HF.out _ _ _ _ _).1,(HF.out _ _ _ _ _).2,zn,fun h=>absurd Hz.out h⟩
  have hz:((st:Int)==0)=false:=by simp;omega
  have aH:1≤st:=zk;have Hz:Hid _:=i;clear i;go_wp2;clear j0 j1 j2 j3;go_loopw [5,6,7] (fun s5 s6 s7 wr=> ∃(p left:Nat) (q:Int) (us:List Tx) (tv:Value),(s5=za ((p+1:Nat):Int)∧s6=za q∧s7=za left)∧(p<sz∧left≤sz)∧(q=sq+us.length∧us.length+left≤sz)∧SnI w wr #[zg g DL cap,zj pa 0 pc] JB OB sz st sq us tv∧(∀us',SpR ((sz:Int)+2) ((n:Int)-1) ((win F sz p left).map FB.bs) q us'→SpR ((sz:Int)+2) ((n:Int)-1) ((win F sz (st-1) sz).map FB.bs) sq (us++us'))) (fun _ _ s7 _=>(intOf s7).toNat)
  case atStart=>exact⟨st-1,sz,sq,[],_,⟨by rw[show st-1+1=st by omega],rfl,rfl⟩,⟨zk,mP _⟩,⟨zn,zn⟩,l.out,fun us' h=>h⟩
  case round=>
   obtain⟨p,left,q,us,tv,⟨rfl,rfl,rfl⟩,⟨hp,ax⟩,⟨ak,aT⟩,hI,ah⟩:=hrel;clear l;have HI:Hid _:=hI;have G:Hid _:=ah;have ad:Hid _:=ak;have hN:=HN.out wr p left q hI.c hp ax;have aA:=hI.s.2.2;obtain⟨⟨j0,j1,j2,j3⟩,-,-,-,-⟩:=qO hI.j;obtain⟨d0,d1,-,-⟩:=zw hI.d;clear hI ah ak;go_wp2_with fail;clear j0 j1 j2 j3 d0 d1;refine hN.mono ?_;rintro e w8 ⟨am,c8⟩;have u:Hid _:=HI.out.grow c8;clear hN c8 HI;rcases am with⟨t,hv,rv,rfl,A,hO⟩|⟨rfl,aj⟩
   case inr=>
    have f:Hid _:=u.out.grow (zr.alloc (zr.refl 0 0 w8) (zi #[za 0,zc,zc] 35));have HS9:Hid _:=G.out [] aj;obtain⟨tva,tvn,tvc,rfl⟩: ∃a n c,tv=zj a n c:=by obtain⟨hs,rs,ht⟩:=u.out.t;exact zF ht.row
    obtain⟨⟨o0,o1,o2,o3,o4⟩,-⟩:=Zz f.out.o;obtain⟨⟨r0,r1,r2,r3,r4⟩,x⟩:=Zz f.out.z;have f0:=x 0;have f1:=x 1;have f2:=x 2;have f3:=x 3;have f4:=x 4;have HF:Hid _:=f.out.fin;clear u f aj G x;rw[nw] at HS9;go_wp2;exact mT (v:= .agg #[za 0,za sz,za st,za sq,zj tva tvn tvc]) (by simp[results,Tryz.results44,go_sem, *]) rfl ⟨_,us,rfl,(HF.out _ _ _ _ _).1,(HF.out _ _ _ _ _).2,zk,fun _=>HS9.out⟩
   have Y:=gC A.g.v;have B:(TL t).length≤left:=by
    have:=nI List.length A.p;rw[mW,mO,ji] at this;omega
   have ab:Hid (∀us',SpR ((sz:Int)+2) ((n:Int)-1) ((win F sz ((p+(TL t).length) % sz) (left-(TL t).length)).map FB.bs) (q+1) us'→SpR ((sz:Int)+2) ((n:Int)-1) ((win F sz (st-1) sz).map FB.bs) sq (us++ [t]++us')):=fun us' h=>by
    rw[nk];refine G.out (t::us') ⟨A,?_⟩;rw[←List.map_drop,aR F sz p left _ B,←ep];exact h
   obtain⟨tl,ar⟩: ∃tl,Hid (tl=(TL t).length):=⟨_,rfl⟩;rw[←ar.out] at Y B ab⊢;have aB:=A.s;obtain⟨⟨ha,D,rfl,-⟩,⟨ra,rc,rfl,-⟩,-,-⟩:=hO.view;obtain⟨I,aw⟩: ∃hn,Hid (hn=t.homes.length):=⟨_,rfl⟩;obtain⟨rn,az⟩: ∃rn,Hid (rn=t.rV.length):=⟨_,rfl⟩;rw[←aw.out,←az.out] at hO⊢;obtain⟨tq,ths,trs⟩:=t;obtain rfl:tq=q:=aB;clear A G;have C9:zr 0 0 w8 (w8.alloc (zi #[za tq,zj ha I D,zj ra rn rc] 35)):=zr.al w8;have f:Hid _:=u.out.grow C9
   have s8:=u.out.s;have hwr:=aA;have HO9:Hid (qB _ (OB+1) (zj ha I D) (zj ra rn rc) ⟨tq,ths,trs⟩):=(qB.keep hO (fun j aJ T _ _ hh=>(C9.bk j (zE hh)).trans hh)).low hwr;have ae:=zt w8 (zi #[za tq,zj ha I D,zj ra rn rc] 35);obtain⟨⟨t0,t1,t2⟩,aU,aV,aW⟩:=tri ae;clear C9 hO u;obtain⟨hs,rs,V⟩:=f.out.t;obtain⟨tva,tvn,tvc,rfl⟩:=zF V.row;have HT9:Hid _:=V;obtain⟨⟨o0,o1,o2,o3,o4⟩,of⟩:=Zz f.out.o;have s9:=f.out.s
   go_upto_region 19 with fail;clear ae;generalize w8.alloc (zi #[za tq,zj ha I D,zj ra rn rc] 35)=w9 at*;generalize w8.heap.size=TB at*;go_upto_region 20 with(refine Ql (t:=⟨tq,ths,trs⟩) rfl (.tmp 80) (.tmp 82) rfl (OB+1) (zj tva tvn tvc) us hs rs rfl HT9.out zk rfl zk ⟨_,_,_,rfl⟩ ⟨_,_,_,rfl⟩ HO9.out ?_;intro g6 au aC N af O;obtain⟨P,L⟩:=f.out.more N (((zr.al w9).widen).trans af) O;have J:Hid _:=L;obtain⟨⟨x0,x1,x2,x3,x4⟩,xf⟩:=Zz P;have aF:=xf 4;clear N af O L P xf o0 o1 o2 o3 o4 of t0 t1 t2)
   clear x0 x1 x2 x3 x4 aF;generalize aC.setCell ⟨OB,4,none⟩ (zg g6 (us.length+1) au)=aD at*;obtain⟨⟨j0,j1,j2,j3⟩,-,-,-,-⟩:=qO J.out.j;have U:=ZB aD (sz:Int) ((p+1:Nat):Int) (tl:Int);rw[Y9,show((p+1:Nat):Int)=(p:Int)+1 from rfl] at U;have aY:IntKind.i64.wrap (tq+1)=tq+1:=by have:=ad.out;rw[mS];omega
   have aX:IntKind.i64.wrap ((left:Int)-(tl:Int))=((left-tl:Nat):Int):=by rw[mS];omega
   clear HT9 HO9 f V;go_wp2_with fail;refine U.mono ?_;rintro e aE ⟨rfl,hw⟩;subst aE;clear U j0 j1 j2 j3;go_wp2;go_roundw
   case rel=>exact⟨(p+tl) % sz,left-tl,tq+1,us++ [⟨tq,ths,trs⟩],_,⟨rfl,rfl,rfl⟩,⟨nF _ zk,zk⟩,⟨by have:=ad.out;rw[mL,nJ];omega,by rw[mL,nJ];omega⟩,J.out,ab.out⟩
   case measure=>simp[intOf];omega
theorem VT (w:World){lo':Nat}{b:Value}{xs ys:List Int}(d:Byt xs)(f:Byt ys)(h1:zC w lo hi .u8 a xs)(h2:zC w lo' hi' .u8 b ys):
  Calls Tryz.prog 23 #[a,b] w fun e w'=>e= .returned (.bool (decide (xs=ys)))∧w'=w:=by
 have i:=h1.str;have j:=h2.str;have k:=d7 d f;obtain⟨g,cap,rfl,_⟩:=h1;obtain⟨h,c,rfl,_⟩:=h2;generalize strOfNums xs=s at*;generalize strOfNums ys=t at*;generalize decide (xs=ys)=r at*;go_enter Tryz.func23,Tryz.ntmps23;go_wp2;go_ret;exact⟨rfl,rfl⟩
structure FgS (w:World)(FB:Nat)(fo TO:Obj)(g' k:Nat)(uq:Int)(uh ur:Value)(W:World):Prop where
 f:W.heap[FB]?=some fo
 t:W.heap[w.heap.size+1]?=some TO
 a0:W.cell? ⟨g',k*3,none⟩=some (za uq)
 a1:W.cell? ⟨g',k*3+1,none⟩=some uh
 a2:W.cell? ⟨g',k*3+2,none⟩=some ur
theorem FgS.grow {FB g' k:Nat}{fo TO:Obj}{uq:Int}{uh ur:Value}(h:FgS w FB fo TO g' k uq uh ur W)(c:zr 0 0 W W'):FgS w FB fo TO g' k uq uh ur W':=
 ⟨(c.bk _ (zE h.f)).trans h.f,(c.bk _ (zE h.t)).trans h.t,c.cell h.a0,c.cell h.a1,c.cell h.a2⟩
def FgA (w w':World) (st:Nat) (sq lo hi q:Int) (bs:List (List Int)) (t:Tx) (e:Ending):Prop:= ∃fb us,e= .returned (.bool fb)∧(st≠0→SpR lo hi bs sq us)∧(fb=false→ ∀u∈us,u.seq=q→TL u=TL t)∧zr 0 0 w w'
theorem VR (w:World){lo' nn tn tc rn rc:Nat}{ta ra:Option Addr}{d:Dsk}{F:Nat→FB}{q:Int}{t:Tx}(h1:Zw w lo hi (.agg #[zg g d.dR.length cap,zj pa 0 pc]) d)(hL:qF d nn sz F st sq)(hq:sq≤4294867295)
  (hT:jy w lo' hi' (.agg #[za q,zj ta tn tc,zj ra rn rc]) t) (aI:hi'≤w.heap.size) (ak: ∀x∈t.homes,Byt x.2) (aH:Qa t≤1000000):
  Calls Tryz.prog 19 #[.agg #[zg g d.dR.length cap,zj pa 0 pc],.agg #[za q,zj ta tn tc,zj ra rn rc]] w fun e w'=>FgA w w' st sq ((sz:Int)+2) ((nn:Int)-1) q ((win F sz (st-1) sz).map FB.bs) t e:=by
 have Y:Hid (∀W,zr 0 0 w W→_):=fun W T=>Up W (h1.chg T zk) hL hq;have ar:Hid (∀W,zr 0 0 w W→jy W lo' hi' (.agg #[za q,zj ta tn tc,zj ra rn rc]) t):=fun W T=>hT.chg T zk;have s:Hid _:=ak;clear hT h1 hL ak;generalize d.dR.length=DL at*;obtain⟨z1,z2,z3⟩:=zU w (zi #[zg g DL cap,zj pa 0 pc] 26) (zi #[za q,zj ta tn tc,zj ra rn rc] 35);have p:Hid (zr 0 0 w ((w.alloc (zi #[zg g DL cap,zj pa 0 pc] 26)).alloc (zi #[za q,zj ta tn tc,zj ra rn rc] 35))∧((w.alloc (zi #[zg g DL cap,zj pa 0 pc] 26)).alloc (zi #[za q,zj ta tn tc,zj ra rn rc] 35)).heap[w.heap.size+1]?=some (zi #[za q,zj ta tn tc,zj ra rn rc] 35)):=⟨(zr.al w).alloc _,z3⟩
 obtain⟨d0,d1,-,-⟩:=zw z2;clear z1 z2 z3;go_enter Tryz.func19,Tryz.ntmps19;go_wp2_with fail;clear d0 d1;generalize (w.alloc (zi #[zg g DL cap,zj pa 0 pc] 26)).alloc (zi #[za q,zj ta tn tc,zj ra rn rc] 35)=w0 at*;refine(Y w0 p.1).mono ?_;rintro e V ⟨tv,us,rfl,aA,S,aF,ai⟩;obtain⟨hs,rs,l⟩:=aA;obtain⟨va,J,rfl,aE⟩:=l.at;obtain⟨n,Hn⟩: ∃n,Hid (n=us.length):=⟨_,rfl⟩;rw[←Hn.out] at l aF⊢;have C2:zr 0 0 V (V.alloc (zi #[za 0,za sz,za st,za sq,zj va n J] 47)):=zr.al V
 have aq:Hid (qQ _ w0.heap.size (zj va n J) us hs rs):=l.chg C2;have y:Hid _:=p.1.trans (S.trans C2);have ae:Hid _:=((S.trans C2).bk _ (zE p.2)).trans p.2;have A:Hid _:=zt V (zi #[za 0,za sz,za st,za sq,zj va n J] 47);have Z:Hid _:=ai;clear S C2 l aE ai p Y;go_wp2;generalize V.alloc (zi #[za 0,za sz,za st,za sq,zj va n J] 47)=w2 at*;generalize V.heap.size=FB at*;go_loopw [6] (fun s6 wr=> ∃i:Nat,s6=za i∧i≤n∧(∀j,j<i→(us.getD j ⟨0,[],[]⟩).seq=q→TL (us.getD j ⟨0,[],[]⟩)=TL t)∧zr 0 0 w2 wr) (fun s6 _=>n-(intOf s6).toNat)
 case atStart=>exact⟨0,rfl,mX _,fun j hj=>absurd hj (nW j),zr.refl _ _ _⟩
 case round=>
  obtain⟨i,rfl,aJ,G,T⟩:=hrel;have K:Hid _:=G;have P:Hid _:=T;have an:=(T.bk _ (zE A)).trans A;obtain⟨⟨o0,o1,o2,o3,o4⟩,-⟩:=Zz an;clear G T an;by_cases aD:i<n
  case neg=>
   obtain rfl:i=n:=zk;have aK: ¬(i:Int)<(i:Int):=zk;go_wp2;go_ret;refine⟨false,us,rfl,Z,fun _ u hu hs=>?_,y.trans P⟩;obtain⟨j,hj,rfl⟩:=List.getElem_of_mem hu;have:=K.out j (by rw[Hn.out];exact hj);rw[mV,mZ hj] at this;exact this hs
  have aG:(i:Int)<(n:Int):=zk;have U:i<us.length:=by rw[←Hn.out];exact aD
  have hr:=aq.chg P;obtain⟨ax,ay,e,ag⟩:=hr.at;obtain⟨v,aj,ah⟩:=ag zk;simp only[ns] at e;obtain⟨e3,-,-⟩:=e;obtain rfl:va=some (zd v):=e3.trans aj;obtain⟨a0,a1,a2⟩:=ah i U;obtain⟨⟨⟨ua,uc,euh,-⟩,⟨ub,ud,eur,-⟩⟩,ubyt,ucn⟩:(qW _ _ _ _ _∧zC _ _ _ _ _ _)∧_∧_:=by
   obtain⟨x1,x2,x3,x4⟩:=(hr.el i U).view;exact⟨⟨x1,x2⟩,x3,x4⟩
  have z:Hid (∀W,zr 0 0 wr W→jy W w0.heap.size W.heap.size (.agg #[za (us.getD i ⟨0,[],[]⟩).seq,hs.getD i undef,rs.getD i undef]) (us.getD i ⟨0,[],[]⟩)):=fun W c=>((hr.chg c).seen U).1;have k:Hid _:=ubyt;have ad:Hid (∀(b:Bool),(b=false→(us.getD i ⟨0,[],[]⟩).seq=q→TL (us.getD i ⟨0,[],[]⟩)=TL t)→b=false→ ∀j,j<i+1→(us.getD j ⟨0,[],[]⟩).seq=q→TL (us.getD j ⟨0,[],[]⟩)=TL t):=fun b B aB j hj=>by
   by_cases e:j=i
   ·rw[e];exact B aB
   ·exact K j zk
  clear hr ag ah e3 aj ubyt;rw[euh,eur] at z;rw[euh] at a1;rw[eur] at a2;clear euh eur K;generalize us.getD i ⟨0,[],[]⟩=u at*;obtain⟨C,H⟩: ∃m,Hid (m=u.homes.length):=⟨_,rfl⟩;obtain⟨D,I⟩: ∃m,Hid (m=u.rV.length):=⟨_,rfl⟩;rw[←H.out] at a1;rw[←I.out] at a2;rw[←H.out,←I.out] at z;have HS:Hid (FgS w FB (zi #[za 0,za sz,za st,za sq,zg v n J] 47) (zi #[za q,zj ta tn tc,zj ra rn rc] 35) v i u.seq (zj ua C uc) (zj ub D ud) wr):=⟨(P.bk _ (zE A)).trans A,(P.bk _ (zE ae)).trans ae,a0,a1,a2⟩
  have wi:IntKind.i64.wrap ((i:Int)+1)=((i+1:Nat):Int):=by rw[mS];omega
  clear a0 a1 a2;go_upto_region 5 with fail;clear o0 o1 o2 o3 o4;go_cut [36] (fun s36 wx=> ∃b:Bool,s36= .bool b∧(b=false→u.seq=q→TL u=TL t)∧zr 0 0 wr wx)
  case first=>
   have HSd:Hid _:=HS.grow (zr.drew (zr.refl 0 0 wr));have R:Hid _:=zr.drew (zr.refl 0 0 wr);refine hRg (FgS w FB (zi #[za 0,za sz,za st,za sq,zg v n J] 47) (zi #[za q,zj ta tn tc,zj ra rn rc] 35) v i u.seq (zj ua C uc) (zj ub D ud)) ?_;clear HS;generalize wr.drew=X at*;refine hTk 0 (.pointer (some ⟨FB,4,none⟩)) rfl (fun w' a=>zm) HSd.out ?_;go_simp;refine hTk 1 ((zg v n J)) rfl (fun w' a=>by obtain⟨⟨h0,h1,h2,h3,h4⟩,-⟩:=Zz a.f;go_simp) HSd.out ?_
   go_simp;refine hTk 2 (za i) rfl (fun w' a=>zm) HSd.out ?_;go_simp;refine hTk 3 (.pointer (some ⟨v,i*3,none⟩)) rfl (fun w' a=>zm) HSd.out ?_;go_simp;refine hTk 4 (.pointer (some ⟨v,i*3,none⟩)) rfl (fun w' a=>zm) HSd.out ?_;go_simp;refine hTk 5 (za u.seq) rfl (fun w' a=>by have h0:=a.a0;have h1:=a.a1;have h2:=a.a2;go_simp) HSd.out ?_;go_simp;refine hTk 6 (zh (w.heap.size+1)) rfl (fun w' a=>zm) HSd.out ?_
   go_simp;refine hTk 7 (za q) rfl (fun w' a=>by obtain⟨⟨h0,h1,h2⟩,-⟩:=tri a.t;go_simp) HSd.out ?_;go_simp;by_cases o:u.seq=q
   ·have af:Hid (u.seq=q):=o;have aC:(u.seq==q)=true:=by simp[o]
    clear o;refine hTk 8 (.bool true) rfl (fun w' a=>zm) HSd.out ?_;go_simp;refine hTk 9 (.bool true) rfl (fun w' a=>zm) HSd.out ?_;go_simp;refine hTk 10 (.pointer (some ⟨FB,4,none⟩)) rfl (fun w' a=>zm) HSd.out ?_;go_simp;refine hTk 11 ((zg v n J)) rfl (fun w' a=>by obtain⟨⟨h0,h1,h2,h3,h4⟩,-⟩:=Zz a.f;go_simp) HSd.out ?_;go_simp;refine hTk 12 (za i) rfl (fun w' a=>zm) HSd.out ?_;go_simp;refine hTk 13 (.pointer (some ⟨v,i*3,none⟩)) rfl (fun w' a=>zm) HSd.out ?_
    go_simp;refine hTk 14 (.agg #[za u.seq,zj ua C uc,zj ub D ud]) rfl (fun w' a=>by have h0:=a.a0;have h1:=a.a1;have h2:=a.a2;go_simp) HSd.out ?_;go_simp;refine hTk 16 (.agg #[za q,zj ta tn tc,zj ra rn rc]) rfl (fun w' a=>by obtain⟨⟨h0,h1,h2⟩,-⟩:=tri a.t;go_simp) HSd.out ?_;go_simp;refine Jj 15 rfl zl zl ?_;refine zv 20 #[.agg #[za u.seq,zj ua C uc,zj ub D ud]] zq (qq X zk nlR k.out (z.out X R.out)) ?_
    rintro e X1 ⟨g1,aw,rfl,o1,S⟩;have M:Hid _:=HSd.grow S;have Q:Hid _:=R.trans S;have N:Hid (zC X1 X.heap.size X1.heap.size .u8 _ _):=o1.seen (by rw[Jz (Ze k.out).2];have:=(Ze k).1;omega);clear o1 S HSd;obtain⟨L1,ao⟩: ∃L,Hid (L=64*(TL u).length):=⟨_,rfl⟩;rw[←ao.out] at N⊢;refine⟨_,rfl,M,?_⟩;go_simp;refine Jj 17 rfl zl zl ?_;refine zv 20 #[.agg #[za q,zj ta tn tc,zj ra rn rc]] zq (qq X1 zk (by have:=((y.out.trans P.out).trans Q.out).size;omega) s.out (ar.out X1 ((y.out.trans P.out).trans Q.out))) ?_
    rintro e X2 ⟨g2,az,rfl,o2,c2⟩;have r:Hid _:=M.grow c2;have au:Hid _:=Q.trans c2;have O:Hid (zC X2 X1.heap.size X2.heap.size .u8 _ _):=o2.seen (by rw[Jz (Ze s.out).2];have:=(Ze s).1;omega);have E:Hid (zC X2 _ _ .u8 _ _):=N.chg c2 zk;clear o2 c2 M N;obtain⟨L2,ap⟩: ∃L,Hid (L=64*(TL t).length):=⟨_,rfl⟩;rw[←ap.out] at O⊢;refine⟨_,rfl,r,?_⟩;go_simp;refine Jj 18 rfl zl zl ?_;refine zv 23 #[zg g1 L1 aw,zg g2 L2 az] zq (VT X2 (Vw (ET k.out)) (Vw (ET s.out)) E.out O.out) ?_
    rintro e X3 ⟨rfl,hX⟩;subst X3;have ab:Hid (∀b:Bool,b=decide ((TL u).flatten=(TL t).flatten)→(!b)=false→u.seq=q→TL u=TL t):=fun b B hn _=>by
     have:b=true:=by simpa using hn
     rw[B] at this;exact NZ (Ze k).2 (Ze s).2 (pt this)
    obtain⟨b,B⟩: ∃b,Hid (b=decide ((TL u).flatten=(TL t).flatten)):=⟨_,rfl⟩;rw[←B.out];refine⟨_,rfl,r,?_⟩;go_simp;refine hTk 19 (.bool (!b)) rfl (fun w' a=>zm) r.out ?_;go_simp;refine hTk 20 (.bool (!b)) rfl (fun w' a=>zm) r.out ?_;go_simp;refine hDn ?_;clear E O r;go_wp2;go_meet;exact⟨!b,rfl,ab b B.out,au⟩
   ·have af:Hid (¬u.seq=q):=o;have aC:(u.seq==q)=false:=by simp[o]
    clear o;refine hTk 8 (.bool false) rfl (fun w' a=>zm) HSd.out ?_;go_simp;refine hTk 9 (.bool false) rfl (fun w' a=>zm) HSd.out ?_;go_simp;refine hSk 10 rfl HSd ?_;go_simp;refine hSk 11 rfl HSd ?_;go_simp;refine hSk 12 rfl HSd ?_;go_simp;refine hSk 13 rfl HSd ?_;go_simp;refine hSk 14 rfl HSd ?_;go_simp;refine hSk 15 rfl HSd ?_;go_simp;refine hSk 16 rfl HSd ?_;go_simp;refine hSk 17 rfl HSd ?_;go_simp
    refine hSk 18 rfl HSd ?_;go_simp;refine hSk 19 rfl HSd ?_;go_simp;refine hTk 20 (.bool false) rfl (fun w' a=>zm) HSd.out ?_;go_simp;refine hDn ?_;go_wp2;go_meet;exact⟨false,rfl,fun _ h=>absurd h af,R⟩
  case rest=>
   obtain⟨b,rfl,B,am⟩:=hcut;have ac:=ad.out b B;have aa:Hid _:=P.trans am;have av:Hid _:=ac;clear ac B am ad HS z
   cases b with
   |false=>
    go_wp2;go_roundw
    case rel=>exact⟨i+1,rfl,zk,av rfl,aa⟩
    case measure=>simp[intOf];omega
   |true=>
    go_wp2;go_ret;exact⟨true,us,rfl,Z,(fun h=>by cases h),y.trans aa⟩
theorem Q1 (w:World){xs:List Int}(h1:zC w lo hi .u8 a xs)(b:Nat)(m:b*64+64≤xs.length)(x:xs.length≤1048576):
  Calls Tryz.prog 22 #[a,za b] w fun e w'=> ∃v,e= .returned v∧zC w lo hi .u8 v ((xs.drop (b*64)).take 64)∧w'=w:=by
 obtain⟨q,cap,rfl,u,⟨o,_⟩,g⟩:=h1;obtain⟨j,f,rfl,k,l,n⟩: ∃j f,q=some ⟨j,f,none⟩∧lo≤j∧j<hi∧ ∀i,i<xs.length→w.cell? ⟨j,f+i,none⟩=some (zb (xs.getD i 0)):=by
  rcases g with h|⟨j,f,e,a,b,c⟩
  ·rw[h] at m;simp at m
  ·exact⟨j,f,e,a,b,c⟩
 have d:((xs.drop (b*64)).take 64).length=64:=by rw[mW,m8];omega
 have p:Hid (zC w lo hi .u8 (zj (some ⟨j,f+b*64,none⟩) 64 (cap-b*64)) ((xs.drop (b*64)).take 64)):=by
  refine⟨_,_,by rw[d],by rw[d];omega,⟨by rw[d];omega,zn⟩,Or.inr ⟨j,f+b*64,rfl,k,l,fun i hi=>?_⟩⟩;rw[d] at hi;rw[pm,n (b*64+i) zk];simp[hi]
 have s:((b:Int)*64).toNat=b*64:=zk;have t:(((b:Int)+1)*64).toNat=b*64+64:=zk;have y:(b:Int)*64≤((b:Int)+1)*64:=zk;have z:((b:Int)+1)*64≤(cap:Int):=zk;have A:(b:Int)+1≤1048576:=zk;have r: ¬cap-b*64=0:=zk;clear g n d;go_enter Tryz.func22,Tryz.ntmps22;go_wp2;go_ret;exact⟨_,rfl,p,rfl⟩
abbrev oY:= @beq_eq_false_iff_ne
theorem JF (w:World)(i n:Nat)(hi:i≤1048576)(U:n≤4294967296){ms:List Int}(x:Byt ms)(h1:zC w lo hi' .u8 a ms)(T:ms.length≤1048576):
  Calls Tryz.prog 4 #[a,za i,za n] w fun e w'=>(∃r:Nat,e= .returned (za r)∧(1<n→r<n)∧(n≤1→r=0))∧qj w w':=by
 obtain⟨D,cap,rfl,_,_,c⟩:=h1;by_cases J:n≤1
 ·have E:(n:Int)≤1:=zk;clear c;go_enter Tryz.func4,Tryz.ntmps4;go_wp2;go_ret;exact⟨⟨0,rfl,zk,zk⟩,qj.refl _⟩
 have E: ¬(n:Int)≤1:=zk;have I: ¬(n:Int)=0:=zk;by_cases v:ms.length=0
 ·have y:((ms.length:Int)==0)=true:=by rw[v];rfl
  have g:0≤(i:Int)*7 % (n:Int):=pw _ zk;have j:(i:Int)*7 % (n:Int)<n:=px _ zk;obtain⟨r,f⟩: ∃r:Nat,(i:Int)*7 % (n:Int)=(r:Int):=⟨((i:Int)*7 % (n:Int)).toNat,zk⟩;have t:Hid ((i:Int)*7 % (n:Int)=(r:Int)):=f;rw[f] at j;clear c v f g;go_enter Tryz.func4,Tryz.ntmps4;go_wp2;go_ret;exact⟨⟨r,by rw[←t.out];rfl,zk⟩,qj.refl _⟩
 ·obtain⟨b,k,rfl,F,G,p⟩: ∃b k,D=some ⟨b,k,none⟩∧lo≤b∧b<hi'∧ ∀i,i<ms.length→w.cell? ⟨b,k+i,none⟩=some (zb (ms.getD i 0)):=by
   rcases c with h|⟨b,k,e,h1,h2,h3⟩
   ·rw[h] at v;exact absurd rfl v
   ·exact⟨b,k,e,h1,h2,h3⟩
  have y:((ms.length:Int)==0)=false:=by simp only[oY,ne_eq];omega
  have H: ¬(ms.length:Int)=0:=zk;obtain⟨m,q⟩: ∃m,m=i % ms.length:=⟨_,rfl⟩;obtain⟨o,s⟩: ∃o,o=(i+1) % ms.length:=⟨_,rfl⟩;obtain⟨d,z⟩: ∃d,d=i/ms.length:=⟨_,rfl⟩;have K:m<ms.length:=by rw[q];exact nF _ zk
  have L:o<ms.length:=by rw[s];exact nF _ zk
  have V:d≤i:=by rw[z];exact ss _ _
  have Q:(i:Int) % (ms.length:Int)=(m:Int):=by rw[q];omega
  have R:((i:Int)+1) % (ms.length:Int)=(o:Int):=by rw[s];exact(Int.natCast_emod (i+1) ms.length).symm
  have S:(i:Int)/ (ms.length:Int)=(d:Int):=by rw[z];omega
  have O:=p m K;have P:=p o L;have M:=x.getD m;have N:=x.getD o;generalize ms.getD m 0=l at*;generalize ms.getD o 0=u at*;clear q s z p c x;have B:(m:Int)<(ms.length:Int):=zk;have C:(o:Int)<(ms.length:Int):=zk;by_cases A:(n:Int)>200
  ·have g:0≤((l+d)*37+u) % (n:Int):=pw _ zk;have j:((l+d)*37+u) % (n:Int)<n:=px _ zk;obtain⟨r,f⟩: ∃r:Nat,((l+d)*37+u) % (n:Int)=(r:Int):=⟨(((l+d)*37+u) % (n:Int)).toNat,zk⟩;have t:Hid (((l+d)*37+u) % (n:Int)=(r:Int)):=f;rw[f] at j;clear f g;go_enter Tryz.func4,Tryz.ntmps4;go_wp2;go_quiet (fail);go_wp2;go_ret;exact⟨⟨r,by rw[←t.out];rfl,zk,zk⟩,(qj.refl w).drewN _⟩
  ·have g:0≤(l+d) % (n:Int):=pw _ zk;have j:(l+d) % (n:Int)<n:=px _ zk;obtain⟨r,f⟩: ∃r:Nat,(l+d) % (n:Int)=(r:Int):=⟨((l+d) % (n:Int)).toNat,zk⟩;have t:Hid ((l+d) % (n:Int)=(r:Int)):=f;rw[f] at j;clear f g;go_enter Tryz.func4,Tryz.ntmps4;go_wp2;go_quiet (fail);go_wp2;go_ret;exact⟨⟨r,by rw[←t.out];rfl,zk,zk⟩,(qj.refl w).drewN _⟩
theorem Ni (w:World)(i:Nat)(hi:i≤1000){ms:List Int}(U:Byt ms)(h1:zC w lo hi' .u8 a ms)(Y:ms.length≤1048576):
  Calls Tryz.prog 18 #[a,za i] w fun e w'=> ∃v ks,e= .returned v∧ks.length=40∧zM w' w.heap.size 2 v ks∧zr 0 0 w w':=by
 obtain⟨ti,ab,ac,ad,ae⟩:=info_parts Tryz.infoI;have P:zr 0 0 w (w.alloc (zi #[] 2)):=zr.al w;have F:Hid (zM (w.alloc (zi #[] 2)) w.heap.size 2 (zg w.heap.size 0 0) []):=by
  show zM _ _ _ _ _;have:=World.ownsRow_lit (base:=w.heap.size) (e:=2) (size:=1) w #[] 0 nlR (by unfold maxLen;omega) rfl;simpa [zM] using this
 have Q:Hid (zC w lo hi' .u8 a ms):=h1;obtain⟨ao,cap,rfl,_,_,_⟩:=h1;have r:=JF (w.alloc (zi #[] 2)) i 4 zk zk U (Q.chg P zk) Y;have HB:Hid (Byt ms):=U;clear U;go_enter Tryz.func18,Tryz.ntmps18;go_wp2_with fail;refine r.mono ?_;rintro e w1 ⟨⟨l,rfl,_,_⟩,t⟩;clear r;have H:Hid (zM w1 w.heap.size 2 (zg w.heap.size 0 0) []):=F.chg (t.chg 0 0) (by intro g _;omega);have B:Hid (zr 0 0 w w1):=P.trans (t.chg 0 0)
 clear F P t;go_wp2;go_loopw [5,7,8] (fun out i' s8 wr=> ∃k:Nat,k≤40∧i'=za k∧(∃g cap,out=zg g k cap)∧(∃ks,ks.length=k∧zM wr w.heap.size 2 out ks)∧zr 0 0 w wr) (fun _ i' _ _=>40-(intOf i').toNat)
 case atStart=>exact⟨0,mX _,rfl,⟨_,_,rfl⟩,⟨[],rfl,H⟩,B⟩
 case round=>
  obtain⟨k,hk,rfl,⟨O,N,rfl⟩,⟨ks,s,ho⟩,m⟩:=hrel;clear H B;have A:Hid (ks.length=k∧zM wr w.heap.size 2 (zg O k N) ks):=⟨s,ho⟩;have q:Hid (zr 0 0 w wr):=m;by_cases M:k<40
  ·have ag:(k:Int)<40:=zk;have r:=JF wr (i+k) 2 zk zk HB (Q.chg m zk) Y;have T:(i:Int)+(k:Int)=((i+k:Nat):Int):=zk;have HE:Hid ((i:Int)+(k:Int)=((i+k:Nat):Int)):=T;generalize o:i+k=ik at*;have S:Hid (i+k=ik):=o;clear s ho m o;go_wp2_with fail;refine r.mono ?_;rintro e w2 ⟨⟨r2,rfl,_,_⟩,z⟩;clear r;have I:Hid (zM w2 w.heap.size 2 (zg O k N) ks):=A.2.chg (z.chg 0 0) (by intro g _;omega);have p:Hid (zr 0 0 w w2):=q.trans (z.chg 0 0)
   clear q z;have Z:((l:Int)==0)=(l==0):=by
    by_cases h:l=0
    ·subst h;rfl
    ·rw[show(l==0)=false by simpa using h];simp only[oY,ne_eq];omega
   have n:((l:Int)==1)=(l==1):=by
    by_cases h:l=1
    ·subst h;rfl
    ·rw[show(l==1)=false by simpa using h];simp only[oY,ne_eq];omega
   generalize (l==0)=q0 at*;generalize (l==1)=q1 at*;have D:Hid (((l:Int)==1)=q1):=n;clear n;go_upto_if 23 with fail;go_cut [8] (fun s8 wx=>(∃x:Int,s8=za x)∧wx=w2)
   case first=>
    cases q0
    ·go_wp2;go_meet;exact⟨⟨_,rfl⟩,rfl⟩
    ·go_wp2;go_meet;exact⟨⟨_,rfl⟩,rfl⟩
   case rest=>
    obtain⟨⟨x,rfl⟩,rfl⟩:=hcut;clear Z;generalize wc=w2 at*;have n:=D.out;go_upto_region 9 with fail;go_cut [33] (fun s33 wx=>(∃b:Bool,s33= .bool b)∧qj w2 wx)
    case first=>
     cases q1
     ·go_wp2;go_meet;exact⟨⟨_,rfl⟩,qj.refl _⟩
     ·have r:=JF w2 ik 5 (by have:=S.out;omega) zk HB (Q.chg p zk) Y;go_wp2_with fail;refine r.mono ?_;rintro e w3 ⟨⟨r3,rfl,_,_⟩,c⟩;by_cases hr:(r3:Int)>0
      ·go_wp2;go_meet;exact⟨⟨_,rfl⟩,c⟩
      ·go_wp2;go_meet;exact⟨⟨_,rfl⟩,c⟩
    case rest=>
     obtain⟨⟨b,rfl⟩,c⟩:=hcut;generalize wc=w3 at*;have J:Hid (zM w3 w.heap.size 2 (zg O k N) ks):=I.chg (c.chg 0 0) (by intro g _;omega);have C:Hid (zr 0 0 w w3):=p.trans (c.chg 0 0);clear I p c n D;go_upto_if 33 with fail;go_cut [8] (fun s8 wx=>(∃x:Int,s8=za x)∧wx=w3)
     case first=>
      cases b
      ·go_wp2;go_meet;exact⟨⟨_,rfl⟩,rfl⟩
      ·go_wp2;go_meet;exact⟨⟨_,rfl⟩,rfl⟩
     case rest=>
      obtain⟨⟨y,rfl⟩,rfl⟩:=hcut;generalize wc=w3 at*;have ah:=C.size;have K:Hid ((w3.alloc (zi #[za y] 2)).ownsRow w.heap.size 2 1 (zg O k N) k (ks.map (Value.int .i64))):=by
       have:=J.chg (zr.alloc (zr.refl 0 0 w3) (zi #[za y] 2)) (by intro g _;omega);unfold zM at this;rw[A.out.1] at this;exact this
      have R:Hid (∀g,(zg O k N).ownBlock=some g→w.heap.size≤g):=fun g V=>(J.lt g V).1;have E:Hid (∀j u,[Value.int .i64 y][j]?=some u→(w3.alloc (zi #[za y] 2)).cell? (((zd w3.heap.size):Addr).add j)=some u):=by
       intro j u W;have X:j=0:=by have:=(nD.1 W).1;simp at this;exact this
       subst X;simp at W;subst W;simp[Addr.add]
      have bs:Hid (w.heap.size≤(w3.alloc (zi #[za y] 2)).heap.size):=by show _≤_;simp;omega
      go_wp2_with (at_builtin;refine wpList_append_own _ rfl (.tmp 34) (.tmp 36) 33 rfl w.heap.size 2 ti (za 0) 1 8 Tryz.underlying33 ab ac ad ae rfl zp _ k (ks.map (Value.int .i64)) rfl K.out (zd w3.heap.size) 1 1 [za y] rfl rfl E.out (by simp[Value.oneCell']) (by unfold maxLen;omega) zk bs.out ?_);intro v' w5 f d aa;have HV5:Hid (∃g cap,v'=zg g (k+1) cap):=by
       show∃g cap,_;rcases f.2 with⟨e,h0⟩|⟨g',L,af,e,_⟩
       ·omega
       ·exact⟨g',L,e⟩
      have HO5:Hid (zM w5 w.heap.size 2 v' (ks++ [y])):=by
       show zM _ _ _ _ _;unfold zM;rw[mL,A.out.1,m6];exact f
      have HL5:Hid ((ks++ [y]).length=k+1):=by show _=_;rw[mL,A.out.1];rfl
      have G:zr w.heap.size (w3.heap.size+1) (w3.alloc (zi #[za y] 2)) w5:=zr.ofGrown d (fun g V M=>⟨R.out g V,by simpa using M⟩);have HC5:Hid (zr 0 0 w w5):=(C.alloc _).step G (Or.inr (Or.inl nlR));clear f d G E K bs aa;go_wp2;go_roundw
      case rel=>exact⟨k+1,zk,by go_num,HV5.out,⟨_,HL5.out,HO5.out⟩,HC5.out⟩
      case measure=>simp[intOf];omega
  ·obtain rfl:k=40:=zk;clear ho m s;go_wp2;go_ret;exact⟨_,ks,rfl,A.1,A.2,q⟩
end Go.Proofs.YthdeofoleiiibaaGreatDoor
