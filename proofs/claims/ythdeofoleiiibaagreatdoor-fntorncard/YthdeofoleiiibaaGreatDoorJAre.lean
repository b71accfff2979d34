import Derived.Test.YthdeofoleiiibaaGreatDoorHeldW
import Derived.Test.YthdeofoleiiibaaGreatDoorTxnImpl2
namespace Go.Proofs.YthdeofoleiiibaaGreatDoor
open Go.RowKit Go.Shelf
set_option maxRecDepth 100000
set_option maxHeartbeats 16000000
variable {w:World}{K b n K' i:Nat}{bs:List (List Int)}
abbrev oN:= @Nat.mod_eq_of_lt
abbrev oO:= @Boxed.frozen
abbrev pB:= @Boxed.set
attribute [local go_sem] oq
def NW (tl:List (List Int)) (z:Fin 1000×Fin tl.length):Array Value:= #[za (z.1.val:Int),.agg ((tl.getD z.2.val []).map (Value.int .u8)).toArray]
def Jg (n:Nat):List (Nat×Nat):=(List.range n).map fun i=>(i,i)
def Qv {K:Nat} (zs:List (Fin 1000×Fin K)):List (Nat×Nat):=zs.map fun z=>(z.1.val,z.2.val)
def zO {K K':Nat} (h:K≤K') (pre:List (Fin K)):List (Fin 1000×Fin K'):=pre.zipIdx.map fun z=>(⟨z.2 % 1000,nF _ (by omega)⟩,⟨z.1.val,by have:=z.1.isLt;omega⟩)
theorem lE (h:K≤K')(pre:List (Fin K))(x:Fin K):zO h (pre++ [x])=zO h pre++ [(⟨pre.length % 1000,nF _ (by omega)⟩,⟨x.val,by have:=x.isLt;omega⟩)]:=by
 unfold zO;rw[List.zipIdx_append,m6];simp
theorem Km (h:K≤K')(pre:List (Fin K)):(zO h pre).length=pre.length:=by unfold zO;simp
theorem eu (h:K≤K')(pre:List (Fin K))(c:pre.length≤1000)(a:pre.map Fin.val=List.range pre.length):Qv (zO h pre)=Jg pre.length:=by
 unfold Qv zO Jg;apply p8
 ·simp
 ·intro i h1 h2;have hi:i<pre.length:=by simpa using h2
  have b:pre[i].val=i:=by
   have:=nI (fun l=>l[i]?) a;simpa [hi] using this
  simp[b,oN (show i<1000 by omega)]
theorem Yo (w:World)(x y z:Value):
  Calls Tryz.prog 74 #[.agg #[x,y,z]] w fun e w'=>e= .returned (.func (.func 114) #[] #[zh w.heap.size])∧w'=w.alloc (zi #[x,y,z] 35):=by
 go_enter Tryz.func74,Tryz.ntmps74;go_wp2;go_ret;exact⟨rfl,rfl⟩
theorem ZR (w:World)(x y z:Value):
  Calls Tryz.prog 33 #[.agg #[x,y,z]] w fun e w'=>e= .returned (.func (.func 72) #[] #[zh w.heap.size])∧w'=w.alloc (zi #[x,y,z] 35):=by
 go_enter Tryz.func33,Tryz.ntmps33;go_wp2;go_ret;exact⟨rfl,rfl⟩
def Kk (bs:List (List Int)):Nat:=4294967295-reg 4294967295 (nb bs.flatten)
theorem f9 (bs:List (List Int))(b:List Int):4294967295-reg (4294967295-Kk bs) (nb b)=Kk (bs++ [b]):=by
 unfold Kk;have h:=Xg (nb bs.flatten) 4294967295 zk;rw[show 4294967295-(4294967295-reg 4294967295 (nb bs.flatten))=reg 4294967295 (nb bs.flatten) by omega,rP,oC,List.flatten_nil,nw];unfold nb;rw[m6,cE]
theorem ki (bs:List (List Int)):((Kk bs:Nat):Int)=Zy bs.flatten:=by
 unfold Kk Zy;have h:=Xg (nb bs.flatten) 4294967295 zk;omega
theorem eb (bs:List (List Int)):Kk bs≤4294967295:=by unfold Kk;omega
theorem Sm.keep {w':World}{d z:Int}{k:Nat}(h:Sm w b d z k)(c:w'.heap[b]?=w.heap[b]?):Sm w' b d z k:=
 ⟨(nQ (a:=(zd b)) c).trans h.c0,(nQ (a:=⟨b,1,none⟩) c).trans h.c1,fun o=>(World.frozen?_of_block (a:=⟨b,o,none⟩) c).trans (h.fr o),
  fun i hi=>let ⟨x,hx⟩:=h.ex i hi;⟨x,(nQ (a:=⟨b,3+i,none⟩) c).trans hx⟩,fun i hi=>(nQ (a:=⟨b,3+i,none⟩) c).trans (h.tab i hi),let ⟨cs,hc⟩:=h.ty;⟨cs,c.trans hc⟩⟩
theorem kj:Kk []=0:=by
 unfold Kk nb;rw[List.flatten_nil,pU];show 4294967295-4294967295=0;omega
theorem SmR.keep {w':World}(h:SmR w b)(a:w'.heap[b]?=w.heap[b]?):SmR w' b:=h.elim (fun h=>Or.inl (Sm.keep h a)) (fun h=>Or.inr (Sm.keep h a))
theorem SmR.ty (h:SmR w b): ∃cs:Array Value,w.heap[b]?=some (zi cs 140):=h.elim (fun h=>h.ty) (fun h=>h.ty)
structure ofI (W:World)(l Bt lo hi s M:Nat)(t:Tx)(po:Option Addr)(pcap:Nat)(ao:Option Addr)(cap:Nat)(hKK:(BL t.seq t.homes t.rV).length≤(TL t).length)(J:Nat→List (Fin 1000×Fin (TL t).length)→World→Prop)(pre:List (Fin (BL t.seq t.homes t.rV).length))(V:World):Prop where
 j:J M (zO hKK pre) V
 yb:V.heap[W.heap.size]?=some (zi #[.func (.yield l) #[] #[]] 125)
 ks:qG (KA Bt lo hi) W V
 sr:SmR V s
 sm:V.heap[s+1]?=some (zi #[.int .u32 (Kk (pre.map fun x=>(BL t.seq t.homes t.rV).getD x.val []):Nat)] 129)
 ct:V.heap[s+1+1]?=some (zi #[za (pre.length:Int)] 2)
 bt:V.heap[s+3]?=some (zi #[za t.seq,zj po t.homes.length pcap,zj ao t.rV.length cap] 35)
def ofX {t:Tx} (M:Nat) (hKK:(BL t.seq t.homes t.rV).length≤(TL t).length) (Jx:Nat→List (Fin 1000×Fin (TL t).length)→World→Prop) (c:Code) (pre:List (Fin (BL t.seq t.homes t.rV).length)) (V:World):Prop:=c= .ret∧Jx M (zO hKK pre) V
theorem bS (f lo hi:Nat)(t:Tx)(hv rv:Value)(w:World)(hl:Qa t≤1048576)(a5: ∀x∈t.homes,Byt x.2)(hM:Mag w)(aF:w.heap[f]?=some (zi #[za t.seq,hv,rv] 35))
  (h1:qW w lo hi hv t.homes) (h2:zC w lo hi .i64 rv t.rV) (bU:hi≤w.heap.size:=by omega):
  lO Tryz.prog 72 #[zh f] (NW (TL t)) (KpT (KA f lo hi))
   (fun zs=>Qv zs=Jg (TL t).length) (fun zs=>Qv zs=Jg zs.length) 500 w:=fun l J Jx W hW hJ aG bv bM hY h0=>by
 have az:=(zE aF)
 have a0:=hM.lt
 have bQ:=hW.size
 have F: ∀k,KA f lo hi k→k<W.heap.size:=fun k hk=>by unfold KA at hk;omega
 obtain⟨po,d,rfl⟩:=h1.slice
 obtain⟨P,cap,rfl⟩:=h2.slice
 have aa:Hid (∀V,qG (KA f lo hi) W V→V.heap[f]?=some (zi #[za t.seq,zj po t.homes.length d,zj P t.rV.length cap] 35)):=fun V h=>(h f (Or.inl rfl)).trans ((hW.block f az).trans aF)
 have HP:Hid (∀V,qG (KA f lo hi) W V→qW V lo hi (zj po t.homes.length d) t.homes):=fun V h=>h1.keep (fun b aI aJ=>(h b (Or.inr (Or.inl ⟨aI,aJ⟩))).trans (hW.block b zk))
 have HR:Hid (∀V,qG (KA f lo hi) W V→zC V lo hi .i64 (zj P t.rV.length cap) t.rV):=fun V h=>h2.keep (fun b aI aJ=>(h b (Or.inr (Or.inl ⟨aI,aJ⟩))).trans (hW.block b zk))
 have HM:Hid (∀V,qG (KA f lo hi) W V→Mag V):=fun V h=>by
  have hb:=(h 0 (Or.inr (Or.inr rfl))).trans (hW.block _ a0)
  exact⟨(nQ (a:=(zd 0)) hb).trans hM.m0,(nQ (a:=⟨0,1,none⟩) hb).trans hM.m1,(nQ (a:=⟨0,2,none⟩) hb).trans hM.m2,(nQ (a:=⟨0,3,none⟩) hb).trans hM.m3⟩
 have K0:qG (KA f lo hi) W W:=fun _ _=>rfl
 have cA:zr 0 0 W (W.alloc (zi #[.func (.yield l) #[] #[]] 125)):=zr.al W
 have zY:=zt W (zi #[.func (.yield l) #[] #[]] 125)
 have sA:(W.alloc (zi #[.func (.yield l) #[] #[]] 125)).heap.size=W.heap.size+1:=zn
 have kA:qG (KA f lo hi) W (W.alloc (zi #[.func (.yield l) #[] #[]] 125)):=fun k hk=>cA.bk k (F k hk)
 obtain⟨⟨t0,t1,t2⟩,_⟩:=tri (aa _ kA)
 have aC:=X9 (W.alloc (zi #[.func (.yield l) #[] #[]] 125)) hl (show jy _ lo hi (.agg #[za t.seq,zj po t.homes.length d,zj P t.rV.length cap]) t from⟨_,_,rfl,HP.out _ kA,HR.out _ kA⟩)
 have bh:Hid (0<W.heap.size):=by show _<_;omega
 clear hM aF h1 h2 a0 az
 refine rS Tryz.func72 rfl trivial ?_ rfl
 simp only[Tryz.ntmps72,pA,m7,nH,Nat.reduceAdd,Nat.reduceSub,pL,pM,pO,pP,nG,oD]
 gi_wp2
 refine⟨trivial,rfl,(nP.2 aC).mono ?_⟩
 generalize W.alloc (zi #[.func (.yield l) #[] #[]] 125)=wA at*
 rintro e I ⟨rfl,cV⟩
 have an:=cA.trans cV
 have bc:=cV.bt zY
 have s1:=cV.size
 have k1:qG (KA f lo hi) W I:=fun k hk=>an.bk k (F k hk)
 obtain⟨⟨u0,u1,u2⟩,_⟩:=tri (aa _ k1)
 clear aC t0 t1 t2 zY cA cV kA
 by_cases S:qy t
 case neg=>
  rw[qg S]
  have bA:TL t= []:=by unfold TL;rw[qg S];rfl
  have bu:=h0 I (an.below (Or.inl nlR))
  gi_wp2
  refine⟨_,ph rfl _ _ _,⟨_,rfl⟩,.inl ⟨_,[],by rw[bA];rfl,bu⟩⟩
 rw[qu S]
 have zS:=ER I
 have a9:=OkT.of S a5
 have ab:Hid (TL t=BL t.seq t.homes t.rV++ [Vz t.seq (BL t.seq t.homes t.rV)]):=by show _=_;unfold TL;rw[mM (qu S)]
 obtain⟨⟨_,bX,bY⟩,_⟩:=S
 have cB:zr 0 0 I (((I.alloc (zi ZS 140)).alloc (zi #[.int .u32 0] 129)).alloc (zi #[za 0] 2)):=((zr.al I).alloc _).alloc _
 obtain⟨x1,x2,x3,x4⟩:=JZ I (zi ZS 140) (zi #[.int .u32 0] 129) (zi #[za 0] 2)
 have ad:Sm (((I.alloc (zi ZS 140)).alloc (zi #[.int .u32 0] 129)).alloc (zi #[za 0] 2)) I.heap.size 0 0 0:=by
  refine Sm.keep (Sm.new I) ?_;rw[oU _ _ _ (by simp;omega),oU _ _ _ zn]
 have kB:qG (KA f lo hi) W (((I.alloc (zi ZS 140)).alloc (zi #[.int .u32 0] 129)).alloc (zi #[za 0] 2)):=fun k hk=>(cB.bk k (by have:=F k hk;omega)).trans (k1 k hk)
 obtain⟨⟨u0,u1,u2⟩,_⟩:=tri (aa _ kB)
 gi_wp2
 refine⟨trivial,rfl,(nP.2 (Yo _ _ _ _)).mono ?_⟩
 rintro e w2 ⟨rfl,rfl⟩
 have cC:zr 0 0 (((I.alloc (zi ZS 140)).alloc (zi #[.int .u32 0] 129)).alloc (zi #[za 0] 2)) ((((I.alloc (zi ZS 140)).alloc (zi #[.int .u32 0] 129)).alloc (zi #[za 0] 2)).alloc (zi #[za t.seq,zj po t.homes.length d,zj P t.rV.length cap] 35)):=zr.al _
 have x5:=zt (((I.alloc (zi ZS 140)).alloc (zi #[.int .u32 0] 129)).alloc (zi #[za 0] 2)) (zi #[za t.seq,zj po t.homes.length d,zj P t.rV.length cap] 35)
 have s5:((((I.alloc (zi ZS 140)).alloc (zi #[.int .u32 0] 129)).alloc (zi #[za 0] 2)).alloc (zi #[za t.seq,zj po t.homes.length d,zj P t.rV.length cap] 35)).heap.size=(((I.alloc (zi ZS 140)).alloc (zi #[.int .u32 0] 129)).alloc (zi #[za 0] 2)).heap.size+1:=zn
 rw[x1] at x5 s5⊢
 clear u0 u1 u2 zS
 generalize (((I.alloc (zi ZS 140)).alloc (zi #[.int .u32 0] 129)).alloc (zi #[za 0] 2))=wB at*
 generalize wB.alloc (zi #[za t.seq,zj po t.homes.length d,zj P t.rV.length cap] 35)=m at*
 obtain⟨s,hs⟩: ∃s,s=I.heap.size:=⟨_,rfl⟩
 rw[←hs] at x1 x2 x3 x4 x5 s5 ad s1⊢
 have aE:=cB.trans cC
 have cL:zr 0 0 W m:=an.trans aE
 have kL:qG (KA f lo hi) W m:=fun k hk=>cL.bk k (F k hk)
 have z0:=aE.bt bc
 have z2:=(cC.bk s).trans x2
 have z3:=(cC.bk (s+1)).trans x3
 have z4:=(cC.bk (s+1+1)).trans x4
 have a1:=Sm.keep ad (cC.bk s)
 have E:(BL t.seq t.homes t.rV).length≤(TL t).length:=by rw[ab.out,mL];omega
 obtain⟨i1,i2⟩:=Ea 128 (q:=t.seq) (hs:=t.homes) (rs:=t.rV) zk a9
 have aX:=bd (q:=t.seq) t.rV a5
 have a3: ∀x,x<(BL t.seq t.homes t.rV).length→(TL t).getD x []=(BL t.seq t.homes t.rV).getD x []:=fun x hx=>by
  rw[ab.out];simp only[mV];rw[nZ hx]
 have aB:=eA (s+3) lo hi t.seq t.homes t.rV (zj po t.homes.length d) (zj P t.rV.length cap) m a9 zk (HM m kL) x5 (HP m kL) (HR m kL)
 clear cB cC aE x2 x3 x4 ad kB k1 bc an hs
 gi_wp2
 have aY:OwnFrom m.heap.size (ofI W l f lo hi s m.heap.size t po d P cap E J):=
  fun pre A C ak hi' hg hr=>by
   have R: ∀k,k<m.heap.size→some k≠ak:=fun k hk e=>by have:=(hr _ e.symm).1;omega
   have bB:=(zE hi'.bt);refine⟨hJ _ _ A C ak hi'.j hg (fun r e=>⟨by have:=(hr r e).1;omega,(hr r e).2⟩),(hg.block _ zk (R _ zk)).trans hi'.yb,?_,?_,(hg.block _ zk (R _ zk)).trans hi'.sm,(hg.block _ zk (R _ zk)).trans hi'.ct,(hg.block _ zk (R _ zk)).trans hi'.bt⟩
   ·intro k hk;have bF:=F k hk;exact(hg.block k zk (R _ zk)).trans (hi'.ks k hk)
   ·exact hi'.sr.keep (hg.block s zk (R _ zk))
 refine JJ (n:=0) (Kp:=KpT (KA (s+3) lo hi) (m.heap.size+2)) (gf:=114) (lb:= #[zh (s+3)]) rfl (p9 Tryz.func114 zl rfl)
  aB (fun h=>h) (pg _ _) (fun _=>rfl) KpT.trans (fun V o _ hb=>KpT.put o hb (fun k hk=>by unfold KA at hk;omega))
  (ofI W l f lo hi s m.heap.size t po d P cap E J) (ofX m.heap.size E Jx)
  ?hI ?hIx ?h0 (fun x a' V=> ∃Bx,m.heap.size≤Bx∧V.heap[Bx]?=some (zi (((BL t.seq t.homes t.rV).getD x.val []).map (Value.int .u8)).toArray 78)∧a'= {tmps:= #[.func (.yield l) #[] #[],zh f,zh W.heap.size,zh s,zh (s+1),.pointer (some ⟨s+1+1,0,none⟩),zh Bx,.agg #[za t.seq,zj po t.homes.length d,zj P t.rV.length cap],.bool true,.bool false,.agg #[za t.seq,zj po t.homes.length d,zj P t.rV.length cap],.func (.func 114) #[] #[zh (s+3)],.agg (((BL t.seq t.homes t.rV).getD x.val []).map (Value.int .u8)).toArray,undef,undef,undef,undef,undef,undef,undef,undef,undef,undef,undef,undef,undef,undef,undef,undef,undef,undef,undef,undef,undef],defers:= []})
  ?hAx ?assign ?body ?done ?stop
 case hI=>
  exact aY
 case hIx=>
  exact fun c pre A C ak bH hg hr=>by
   obtain⟨h1,h2⟩:=bH;exact⟨h1,aG _ _ A C ak h2 hg (fun r e=>⟨by have:=(hr r e).1;omega,(hr r e).2⟩)⟩
 case h0=>
  intro V hV b3;have cV:=zr.ofBelow hV 0 0;refine⟨?_,(hV.block _ zk).trans z0,?_,Or.inl (Sm.keep a1 (hV.block _ zk)),by rw[pU,kj];exact(hV.block _ zk).trans z3,(hV.block _ zk).trans z4,(hV.block _ zk).trans x5⟩
  ·have h:=h0 m (cL.below (Or.inl nlR));exact hJ _ _ m V none h (jB cV) (fun r e=>by cases e)
  ·intro k hk;have bF:=F k hk;exact(hV.block k zk).trans (kL k hk)
 case hAx=>
  rintro x a' _ A C ak ⟨Bx,h1,h2,h3⟩ hg hr;exact⟨Bx,h1,Z7 h2 hg (fun r e=>(hr r e).2),h3⟩
 case assign=>
  rintro l' pre x V K' bz aQ hi' bx;simp only[gX];have hx:=x.isLt;have ai:(((BL t.seq t.homes t.rV).getD x.val []).map (Value.int .u8)).length=64:=by
   rw[mO,show(BL t.seq t.homes t.rV).getD x.val []=(BL t.seq t.homes t.rV)[x.val] by simp[hx]];exact i1 _ (nj hx)
  have br: ∀v∈((BL t.seq t.homes t.rV).getD x.val []).map (Value.int .u8),v.oneCell'=true:=nf _ _;have ah:(Tryz.prog.info? 78).map (·.size)=some (((BL t.seq t.homes t.rV).getD x.val []).map (Value.int .u8)).length:=by rw[ai];kernel_rfl
  generalize ((BL t.seq t.homes t.rV).getD x.val []).map (Value.int .u8)=cs at*;gi_wp2_with (refine pj rfl fun K hK=>?_;refine Zs (fun _ h=>by cases h) ?_;refine wp_store_row 78 (.tmp 6) (.tmp 12) rfl rfl V.heap.size rfl cs _ 78 rfl (zt V _) (by rw[ai];rfl) ah br ?_;intro wg bC bD;refine hK _ _ ?_);have cv:zr 0 0 V wg:=(zr.al V).step bD (Or.inr (Or.inl nlR));have bB:=(zE hi'.bt);refine bx _ _ ⟨cv.size,cv.bk _,cv.bk _⟩ (KpT.chg0 cv (fun k hk=>by unfold KA at hk;omega)) ?_ ⟨V.heap.size,zk,bC,rfl⟩
  exact aY _ V wg none hi' (jB cv) (fun r e=>by cases e)
 case body=>
  rintro l' pre x a' V bz ⟨r0,aQ⟩ hi' ⟨Bx,bT,af,rfl⟩ a7;have aN:Tryz.prog.follows .mixedOrders=true:=zl;have bW:pre.length<500:=by unfold pcN at a7;omega
  have hx:=x.isLt;have aM:(BL t.seq t.homes t.rV).getD x.val []=(BL t.seq t.homes t.rV)[x.val]:=by simp[hx]
  obtain⟨blk,L⟩: ∃blk,blk=(BL t.seq t.homes t.rV).getD x.val []:=⟨_,rfl⟩;have ae:blk.length=64:=by rw[L,aM];exact i1 _ (nj hx)
  have a4:Byt blk:=by rw[L,aM];exact aX _ (nj hx)
  have aH:=a3 x.val hx;rw[←L] at aH af⊢;obtain⟨fn,tmps,assign,body,hy,hR⟩:=hY m.heap.size (zO E pre) (⟨pre.length % 1000,nF _ zk⟩,⟨x.val,zk⟩) V zk zk hi'.j (by rw[Km];omega);simp only[NW] at hy;rw[aH,oN (show pre.length<1000 by omega)] at hy;obtain⟨c,hc⟩: ∃c,c=Kk (pre.map fun x=>(BL t.seq t.homes t.rV).getD x.val []):=⟨_,rfl⟩;have aK:c≤4294967295:=by rw[hc];exact eb _
  obtain⟨n',aO⟩: ∃n',n'=Kk ((pre++ [x]).map fun x=>(BL t.seq t.homes t.rV).getD x.val []):=⟨_,rfl⟩;have bp:Hid _:=aO;have bi:Hid (4294967295-reg (4294967295-c) (nb blk)=n'):=by
   show _=_;rw[aO,m6,hc,f9,L];rfl
  have N:=hi'.sm;rw[←hc] at N;have ax:Hid _:=ae;have bm:Hid (Byt blk):=a4;obtain⟨cs,aq⟩: ∃cs,cs=blk.map (Value.int .u8):=⟨_,rfl⟩;rw[←aq] at hy af⊢;have bo:Hid _:=aq;have ai:cs.length=64:=by rw[aq,mO];exact ae
  have ah:(Tryz.prog.info? 78).map (·.size)=some cs.length:=by rw[ai];kernel_rfl
  have bJ:=Tryz.underlying78;have aS:Hid _:=zy af;have q1:=ng hi'.yb;have q2:=ng hi'.ct;have aU:Hid _:=af;have aw:Hid _:=lE E pre x;clear aq ae a4 L aM aH hc af ai aB aO;gi_wp2_with (refine pj rfl fun K hK=>?_;refine Zs (fun _ h=>by cases h) ?_;refine wp_load_mid 78 (.tmp 6) rfl Bx 0 rfl cs _ aS bJ rfl ah ?_;refine hK _ _ ?_);refine⟨rfl,(Ke hR l').mono ?_⟩;rintro e H ⟨⟨m1,m2⟩,aj⟩;have ba:=m1.size;have y0:=(m1.same W.heap.size nlR zk).trans hi'.yb
  have y1:=m1.same s zk zk;have y2:=(m1.same (s+1) zk zk).trans N;have y3:=(m1.same (s+1+1) zk zk).trans hi'.ct;have y4:=(m1.same (s+3) zk zk).trans hi'.bt;have ys:=hi'.sr.keep y1;have yk:=hi'.ks.trans m2.1;have yb:=(m2.2.1 _ _ _ _ lI aU).trans aU;have au:KpT (KA (s+3) lo hi) (m.heap.size+2) V H:=⟨fun k hk=>by
   rcases hk with rfl|hk|hk
   ·exact m1.same _ zk zk
   ·exact m2.1 k (Or.inr (Or.inl hk))
   ·exact m2.1 k (Or.inr (Or.inr hk)),m2.2.1,fun k o hk=>m2.2.2 k o zk⟩
  have Z:ZK m.heap.size V H:=⟨ba,m2.2.2 _ _ zk aQ.df rfl,m2.2.2 _ _ zk aQ.lp rfl⟩;clear hy hR q1 q2 aS y1;rcases aj with⟨rfl,B⟩|⟨rfl,B⟩
  ·rw[←aw.out] at B;gi_wp2;refine ZT (fun _:World=>True) aN ?_;have HT:Hid _:=trivial;have be:H.drew.heap[s+1]?=some (zi #[.int .u32 (c:Int)] 129):=y2;have bL:SmR H.drew s:=ys.keep rfl;have bK:H.drew.heap[Bx]?=some (zi cs.toArray 78):=yb;have cd:zr 0 0 H H.drew:=zr.drew (zr.refl _ _ H);have sd:H.drew.heap.size=H.heap.size:=rfl;generalize H.drew=X at*;refine rTk 1 (zg Bx 64 64) rfl (fun w' g=>zm) trivial ?_
   go_simp;have qs:=ng be;refine rOn 0 rfl ?_;go_simp;have aP:=iF X s c aK bL blk Bx 0 64 bm (by rw[ax.out];omega) zk (fun i bE=>by
    rw[ni];have h:=qR.cell (w:=X) (b:=Bx) (T:=78) (cs:=cs) bK i (v:=zb (blk.getD i 0)) (by rw[bo.out];simp[bE]);exact h)
   rw[bi.out,ax.out] at aP;refine rOn 2 rfl ?_;refine zv 75 #[zh s,.int .u32 (c:Int),zg Bx 64 64] zq aP ?_;rintro e M ⟨rfl,bf,Q⟩;refine⟨_,rfl,trivial,?_⟩;have av:=Q.bt be;have bg:=Q.bt ((cd.bk _).trans y3);clear aP qs;have e1:=ng av;have e2:=oO av;go_simp;refine rOn 3 rfl ?_;go_simp;refine jf zl ?_;refine jV.mk ?_;have e3: ∀v:Value,(M.setCell (zd (s+1)) v).heap[s+1+1]?=some (zi #[za (pre.length:Int)] 2):=fun v=>(nY _ _ _ _ zn).trans bg
   have e4:=fun v=>ng (e3 v);have e5:=fun v=>oO (e3 v);have hwr:IntKind.i64.wrap ((pre.length:Int)+1)=(pre.length:Int)+1:=by rw[mS];omega
   have aR:Hid (∀v u:Value,v= .int .u32 ((n':Nat):Int)→u=za ((pre.length:Int)+1)→(ZK m.heap.size V ((M.setCell (zd (s+1)) v).setCell ⟨s+1+1,0,none⟩ u)∧KpT (KA (s+3) lo hi) (m.heap.size+2) V ((M.setCell (zd (s+1)) v).setCell ⟨s+1+1,0,none⟩ u))∧ofI W l f lo hi s m.heap.size t po d P cap E J (pre++ [x]) ((M.setCell (zd (s+1)) v).setCell ⟨s+1+1,0,none⟩ u)):=by
    rintro v u rfl rfl;have cY:zr s (s+3) H ((M.setCell (zd (s+1)) (.int .u32 ((n':Nat):Int))).setCell ⟨s+1+1,0,none⟩ (za ((pre.length:Int)+1))):=
     (((cd.widen).trans (Q.widen)).setCell (p:=(zd (s+1))) (Or.inl ⟨by show s≤s+1;omega,by show s+1<s+3;omega⟩) _).setCell (p:=⟨s+1+1,0,none⟩) (Or.inl ⟨by show s≤s+1+1;omega,by show s+1+1<s+3;omega⟩) _
    have t1:(M.setCell (zd (s+1)) (.int .u32 ((n':Nat):Int))).heap[s+1]?=some (zi #[.int .u32 ((n':Nat):Int)] 129):=pB _ av;have t2:((M.setCell (zd (s+1)) (.int .u32 (n':Int))).setCell ⟨s+1+1,0,none⟩ (za ((pre.length:Int)+1))).heap[s+1+1]?=some (zi #[za ((pre.length:Int)+1)] 2):=pB _ (e3 _);have t0:((M.setCell (zd (s+1)) (.int .u32 (n':Int))).setCell ⟨s+1+1,0,none⟩ (za ((pre.length:Int)+1))).heap[s]?=M.heap[s]?:=(nY _ _ _ _ (by simp;omega)).trans (nY _ _ _ _ zn)
    have bI:((M.setCell (zd (s+1)) (.int .u32 (n':Int))).setCell ⟨s+1+1,0,none⟩ (za ((pre.length:Int)+1))).heap[s+1]?=some (zi #[.int .u32 (n':Int)] 129):=(nY _ _ _ _ zn).trans t1;generalize (M.setCell (zd (s+1)) (.int .u32 (n':Int))).setCell ⟨s+1+1,0,none⟩ (za ((pre.length:Int)+1))=Y at*;have b2:=cY.size;have kY:KpT (KA (s+3) lo hi) (m.heap.size+2) H Y:=KpT.chg cY (fun k hk=>by unfold KA at hk;have:=bh.out;omega) (fun k h1 h2=>by
     have hk:k=s∨k=s+1∨k=s+1+1:=zk;rcases hk with rfl|rfl|rfl
     ·obtain⟨bR,a6⟩:=ys.ty;exact⟨_,_,_,a6,by unfold tyA;decide⟩
     ·exact⟨_,_,_,y2,by unfold tyA;decide⟩
     ·exact⟨_,_,_,y3,by unfold tyA;decide⟩)
    refine⟨⟨⟨by have:=Z.size;omega,cY.bt Z.b0,cY.bt Z.b1⟩,au.trans kY⟩,bv _ _ H Y B (cY.widen) zk,cY.bt y0,fun k hk=>(cY.block k (by have:=F k hk;omega) (by have:=F k hk;omega)).trans (yk k hk),Or.inr (Sm.keep bf t0),by rw[←bp.out];exact bI,by rw[mL];exact t2,cY.bt y4⟩
   clear B av bg Q bf e3;gi_wp2;have ag:=aR.out _ _ rfl rfl
   first|exact ag|(rw[s5] at ag;exact ag)
  ·rw[←aw.out] at B;gi_wp2
   first|exact⟨⟨Z,au⟩,rfl,B⟩|(rw[s5] at Z au B;exact⟨⟨Z,au⟩,rfl,B⟩)
 case done=>
  rintro D xs V hD hS hi' hK;have bs:=(zE hK);have aN:Tryz.prog.follows .mixedOrders=true:=zl;have U:xs.length=(BL t.seq t.homes t.rV).length:=by have:=nI List.length hS;simpa using this
  have aA:(xs.map fun x=>(BL t.seq t.homes t.rV).getD x.val [])=BL t.seq t.homes t.rV:=by
   rw[show(fun x:Fin (BL t.seq t.homes t.rV).length=>(BL t.seq t.homes t.rV).getD x.val [])=(fun i=>(BL t.seq t.homes t.rV).getD i [])∘Fin.val from rfl,←oR,hS];apply p8
   ·simp
   ·intro i h1 h2;simp[h2]
  have N:=hi'.sm;rw[aA] at N;have ar:=hi'.ct;rw[U] at ar;have aK:=eb (BL t.seq t.homes t.rV);have aL:=ki (BL t.seq t.homes t.rV);obtain⟨n,Hn⟩: ∃n,Hid (n=(BL t.seq t.homes t.rV).length):=⟨_,rfl⟩;obtain⟨G,aD⟩: ∃G:Int,Hid (G=((Kk (BL t.seq t.homes t.rV):Nat):Int)):=⟨_,rfl⟩;have bV:n<500:=by rw[Hn.out];omega
  have bO:0≤G:=by rw[aD.out];omega
  have bP:G≤4294967295:=by rw[aD.out];omega
  rw[←aD.out] at N aL;rw[←Hn.out] at ar;have bn:Hid _:=aL;have a8:n<(TL t).length:=by rw[ab.out,Hn.out,mL];simp
  have bj:Hid ((TL t).getD n []=qk (zD 4 (n:Int) t.seq++zx G 4)):=by
   show _=_;rw[ab.out,Hn.out,bn.out];simp[Vz]
  have bq:Hid ((TL t).length=n+1):=by show _=_;rw[ab.out,Hn.out];simp
  have bb:(zO E xs).length=n:=by rw[Km,U,Hn.out]
  have bl:Hid (Qv (zO E xs)=Jg n):=by
   show _=_;rw[eu E xs (by rw[U,←Hn.out];omega) (by rw[hS,U]),U,Hn.out]
  have ay:Hid (Qv (zO E xs++ [(⟨n % 1000,nF _ zk⟩,⟨n,a8⟩)])=Jg (n+1)):=by
   show _=_;unfold Qv at*;rw[m6,bl.out];unfold Jg;rw[pQ,m6];simp[oN (show n<1000 by omega)]
  have aV:Hid _:=bb;have hwr:IntKind.i64.wrap G=G:=by rw[mS];omega
  have cd:=zr.drew (zr.refl 0 0 V);have kd:qG (KA f lo hi) W V.drew:=hi'.ks;have HS:Hid ((fun w':World=>(w'.heap[W.heap.size]?=some (zi #[.func (.yield l) #[] #[]] 125)∧w'.cell? (zd f)=some (za t.seq))∧w'.heap[s+1]?=some (zi #[.int .u32 G] 129)∧w'.heap[s+1+1]?=some (zi #[za n] 2)) V.drew):=⟨⟨hi'.yb,(tri (aa _ kd)).1.1⟩,N,ar⟩;have bZ:V.drew.heap.size=V.heap.size:=rfl;have bN:=(zE hi'.bt);have bw:=hi'.j
  have HK:Hid _:=hK;clear aA aK aL U N ar bb hK hi' hS;gi_wp2;refine QA (fun w':World=>(w'.heap[W.heap.size]?=some (zi #[.func (.yield l) #[] #[]] 125)∧w'.cell? (zd f)=some (za t.seq))∧w'.heap[s+1]?=some (zi #[.int .u32 G] 129)∧w'.heap[s+1+1]?=some (zi #[za n] 2)) aN ?_;generalize V.drew=X at*;refine vTk 0 (.func (.yield l) #[] #[]) rfl (fun w' g=>by have q1:=ng g.1.1;go_simp) HS.out ?_;go_simp;refine vTk 1 (za n) rfl (fun w' g=>by have q1:=ng g.2.2;go_simp) HS.out ?_
  go_simp;refine vTk 2 (zh f) rfl (fun w' g=>zm) HS.out ?_;go_simp;refine vTk 3 (za t.seq) rfl (fun w' g=>by have q1:=g.1.2;go_simp) HS.out ?_;go_simp;refine vTk 4 (za n) rfl (fun w' g=>by have q1:=ng g.2.2;go_simp) HS.out ?_;go_simp;refine vTk 5 (.int .u32 G) rfl (fun w' g=>by have q1:=ng g.2.1;go_simp) HS.out ?_;go_simp;refine vTk 6 (za G) rfl (fun w' g=>zm) HS.out ?_;go_simp;refine vTk 7 (.agg #[za t.seq,za n,za G]) rfl (fun w' g=>zm) HS.out ?_
  go_simp;have ac:=HM.out X kd;refine ZN 8 rfl zl rfl zl ?_;refine zv 76 #[.agg #[za t.seq,za n,za G]] zq (VA X t.seq (n:Int) G ac.m0 ac.m1 ac.m2 ac.m3) ?_;rintro e M ⟨rfl,Q⟩;have s2:=Q.size;have k2:qG (KA f lo hi) W M:=fun k hk=>(Q.bk k (by have:=F k hk;omega)).trans (kd k hk);have O:Hid ((fun w':World=>(w'.heap[W.heap.size]?=some (zi #[.func (.yield l) #[] #[]] 125)∧w'.cell? (zd f)=some (za t.seq))∧w'.heap[s+1]?=some (zi #[.int .u32 G] 129)∧w'.heap[s+1+1]?=some (zi #[za n] 2)) M):=⟨⟨Q.bt HS.1.1,Q.cell HS.1.2⟩,Q.bt HS.2.1,Q.bt HS.2.2⟩
  refine⟨_,rfl,O,?_⟩;go_simp;have hE:=J2 M (n:Int) t.seq G zk zk zk (pn2) (pn4) (pn4);rw[←bj.out] at hE;refine ZN 9 rfl zl rfl zl ?_;refine zv 77 #[.agg #[zb 106,zb 108,zb 111,zb 103,za 4,za n,za t.seq,za G]] zq hE ?_;rintro e X3 ⟨rfl,c3⟩;have s3:=c3.size;have k3:qG (KA f lo hi) W X3:=fun k hk=>(c3.bk k (by have:=F k hk;omega)).trans (k2 k hk);have am:Hid ((fun w':World=>(w'.heap[W.heap.size]?=some (zi #[.func (.yield l) #[] #[]] 125)∧w'.cell? (zd f)=some (za t.seq))∧w'.heap[s+1]?=some (zi #[.int .u32 G] 129)∧w'.heap[s+1+1]?=some (zi #[za n] 2)) X3):=⟨⟨c3.bt O.1.1,c3.cell O.1.2⟩,c3.bt O.2.1,c3.bt O.2.2⟩
  refine⟨_,rfl,am,?_⟩;have aW:zr 0 0 V X3:=cd.trans (Q.trans c3);have aZ:=(aW.bk D bs).trans HK;obtain⟨fn,tmps,assign,body,hy,hR⟩:=hY m.heap.size (zO E xs) (⟨n % 1000,nF _ zk⟩,⟨n,a8⟩) X3 zk zk (hJ _ _ V X3 none bw (jB aW) (fun r e=>by cases e)) (by rw[aV.out];omega);simp only[NW] at hy;rw[oN (show n<1000 by omega)] at hy;generalize ((TL t).getD n []).map (Value.int .u8)=cs at*;clear hE Q c3 HS O ac
  go_simp;refine KF 10 rfl zl rfl zl zm hR ?_;rintro e H ⟨⟨m1,m2⟩,aj⟩;have ba:=m1.size;have f3:=k3.trans m2.1;have aT:Hid ((fun w':World=>(w'.heap[W.heap.size]?=some (zi #[.func (.yield l) #[] #[]] 125)∧w'.cell? (zd f)=some (za t.seq))∧w'.heap[s+1]?=some (zi #[.int .u32 G] 129)∧w'.heap[s+1+1]?=some (zi #[za n] 2)) H):=⟨⟨(m1.same _ nlR zk).trans am.1.1,(tri (aa H f3)).1.1⟩,(m1.same _ zk zk).trans am.2.1,(m1.same _ zk zk).trans am.2.2⟩
  have ap:H.heap[D]?=some (.deferred (some [])):=(m2.2.2 _ _ zk aZ rfl).trans aZ;clear hy hR;rcases aj with⟨rfl,B⟩|⟨rfl,B⟩
  ·refine⟨_,rfl,aT,?_⟩;go_simp;refine Qd zl ?_;refine jV.mk ?_;gi_wp2;refine⟨zn,.inl ⟨_,_,rfl,oE ap,?_⟩⟩;refine⟨_,ph rfl _ _ _,⟨_,rfl⟩,.inl ⟨m.heap.size,_,ay.trans (nI Jg bq.symm),?_⟩⟩;exact(hJ _).putObj _ B zk ap rfl
  ·refine⟨_,rfl,aT,?_⟩;go_simp;refine Qd zl ?_;refine jV.mk ?_;gi_wp2;refine⟨zn,.inl ⟨_,_,rfl,oE ap,?_⟩⟩;refine⟨_,ph rfl _ _ _,⟨_,rfl⟩,.inr ⟨m.heap.size,_,by rw[ay.out,mL,aV.out];rfl,?_⟩⟩;exact(aG _).putObj _ B zk ap rfl
 case stop=>
  rintro D c pre V hD a2 ⟨rfl,hx⟩ hK;gi_wp2;refine⟨zn,.inl ⟨_,_,rfl,oE hK,?_⟩⟩;have bG:pre.length≤1000:=by
   have h1: ∀y∈pre.map Fin.val,y<(BL t.seq t.homes t.rV).length:=fun y hy=>by obtain⟨z,_,rfl⟩:=m9.1 hy;exact z.isLt
   rw[a2] at h1;rcases ri (BL t.seq t.homes t.rV).length pre.length with h|h
   ·have:=h1 (BL t.seq t.homes t.rV).length (pq.2 h);omega
   ·omega
  refine⟨_,ph rfl _ _ _,⟨_,rfl⟩,.inr ⟨m.heap.size,_,by rw[eu E pre bG a2,Km],?_⟩⟩;exact(aG _).putObj _ hx zk hK rfl
attribute [local go_sem] oq
def Yz {K:Nat} (pre:List (Fin 1000×Fin K)):Int:=(pre.getLast?.map fun z=>(z.1.val:Int)+1).getD 0
theorem VP (pre:List (Fin 1000×Fin K))(x:Fin 1000×Fin K):Yz (pre++ [x])=(x.1.val:Int)+1:=by unfold Yz;simp
theorem eX (n:Nat):Jg (n+1)=Jg n++ [(n,n)]:=by unfold Jg;rw[pQ,m6];rfl
theorem NU {p:Nat×Nat}(h:p∈Jg n):p.1=p.2∧p.1<n:=by
 unfold Jg at h;obtain⟨i,hi,rfl⟩:=m9.1 h;exact⟨rfl,pq.1 hi⟩
theorem NT (h:i<n:=by omega):(i,i)∈Jg n:=by unfold Jg;exact m9.2 ⟨i,pq.2 h,rfl⟩
theorem VO {zs:List (Fin 1000×Fin K)}(h:Qv zs=Jg n):Yz zs=(n:Int):=by
 have e:Yz zs=((Qv zs).getLast?.map fun z=>(z.1:Int)+1).getD 0:=by
  unfold Yz Qv;rw[List.getLast?_map]
  cases zs.getLast?<;>rfl
 rw[e,h]
 cases n with
 |zero=>rfl
 |succ n=>rw[eX];simp
structure LnI (w:World)(room:Int)(K:Nat)(pre:List (Fin 1000×Fin K))(V:World):Prop where
 br:V.heap[w.heap.size+1]?=some (zi #[za room] 2)
 rs:V.heap[w.heap.size+1+1]?=some (zi #[za 0] 2)
 ln:V.heap[w.heap.size+3]?=some (zi #[za (Yz pre)] 2)
 no: ∀z∈pre,(z.1.val:Int)≠room
 ch:zr 0 0 w V
structure LnX (w:World)(room:Int)(K:Nat)(c:Code)(pre:List (Fin 1000×Fin K))(V:World):Prop where
 c:c= .ret
 rs:V.heap[w.heap.size+1+1]?=some (zi #[za 0] 2)
 at': ∃z∈pre,(z.1.val:Int)=room
 ch:zr 0 0 w V
theorem Ui {v:Int}(h:w.heap[b]?=some (zi #[za v] 2)):(loadVar 2 (zd b)).run Tryz.prog w= .ok (za v) w:=by
 have a:=ng h;simp[loadVar,isAgg,underlying,Tryz.underlying2,a,Result.andThen]
theorem Ya (w:World){lo hi:Nat}{a:Value}{t:Tx}(b:Int)(ap:0≤b)(hl:Qa t≤1048576)(ar:hi≤w.heap.size)(ai: ∀x∈t.homes,Byt x.2)(hM:Mag w)(h1:jy w lo hi a t):
  Calls Tryz.prog 70 #[a,za b] w fun e w'=>e= .returned (za (if((TL t).length:Int)≤b then((TL t).length:Int) else 0))∧zr 0 0 w w':=by
 obtain⟨u,y,rfl,p1,v1⟩:=h1;have aq:=hM.lt;obtain⟨K,E⟩: ∃K:Int,Hid (K=if((TL t).length:Int)≤b then((TL t).length:Int) else 0):=⟨_,rfl⟩;rw[←E.out];have cA:zr 0 0 w (((w.alloc (zi #[za t.seq,u,y] 35)).alloc (zi #[za b] 2)).alloc (zi #[za 0] 2)):=((zr.al w).alloc _).alloc _;obtain⟨z1,z2,z3,z4⟩:=JZ w (zi #[za t.seq,u,y] 35) (zi #[za b] 2) (zi #[za 0] 2);refine(nP (n:=0)).1 ?_;refine rS Tryz.func70 rfl trivial ?_ rfl
 simp only[Tryz.ntmps70,pA,m7,nH,Nat.reduceAdd,Nat.reduceSub,pL,pM,pO,pP,nG,oD];gi_wp2;generalize ((w.alloc (zi #[za t.seq,u,y] 35)).alloc (zi #[za b] 2)).alloc (zi #[za 0] 2)=N at*;obtain⟨y1,y2,y3⟩:=zU N (zi #[za 0] 2) (zi #[za t.seq,u,y] 35);have W:zr 0 0 N ((N.alloc (zi #[za 0] 2)).alloc (zi #[za t.seq,u,y] 35)):=(zr.al N).alloc _;have sB:(N.alloc (zi #[za 0] 2)).heap.size=w.heap.size+4:=by simp[z1]
 refine⟨trivial,rfl,(nP.2 (ZR _ _ _ _)).mono ?_⟩;rintro e w1 ⟨rfl,rfl⟩;rw[sB];generalize (N.alloc (zi #[za 0] 2)).alloc (zi #[za t.seq,u,y] 35)=O at*;rw[z1] at y1 y2 y3;have X:zr 0 0 w O:=cA.trans W;have x2:=W.bt z3;have x3:=W.bt z4;have T:=bS (w.heap.size+4) lo hi t u y O hl ai (hM.chg X zk) y3 (p1.chg X zk) (v1.chg X zk);clear W z2 z3 z4 z1 cA;gi_wp2;have ad: ∀M:Nat,OwnFrom O.heap.size (LnI w b (TL t).length):=by
  rintro M pre A C J h d hr;have g: ∀k,k<w.heap.size+5→some k≠J:=fun k f e=>by have:=(hr _ e.symm).1;omega
  exact⟨(d.block _ (zE h.br) (g _ zk)).trans h.br,(d.block _ (zE h.rs) (g _ zk)).trans h.rs,(d.block _ (zE h.ln) (g _ zk)).trans h.ln,h.no,
   ⟨d.os.trans h.ch.os,d.tape.trans h.ch.tape,d.output.trans h.ch.output,nz h.ch.size d.size,fun k f S=>(d.block k (nE f h.ch.size) (g _ zk)).trans (h.ch.block k f S)⟩⟩
 refine JI (n:=0) (Kp:=KpT (KA (w.heap.size+4) lo hi) (O.heap.size+2)) (gf:=72) (lb:= #[zh (w.heap.size+4)]) rfl (p9 Tryz.func72 zl rfl)
  T (fun h=>h) (pg _ _) (fun _=>rfl) KpT.trans (fun V o _ hb=>KpT.put o hb (fun k f=>by unfold KA at f;omega))
  (fun _=>LnI w b (TL t).length) (fun _=>LnX w b (TL t).length)
  ad ?hIx ?hIF ?hIxF ?h0
  (fun x a' V=>a'= {tmps:= #[.agg #[za t.seq,u,y],za b,zh w.heap.size,zh (w.heap.size+1),.pointer (some ⟨w.heap.size+1+1,0,none⟩),zh (w.heap.size+3),za (x.1.val:Int),.agg #[za t.seq,u,y],.func (.func 72) #[] #[zh (w.heap.size+4)],za (x.1.val:Int),.agg (((TL t).getD x.2.val []).map (Value.int .u8)).toArray,undef,undef,undef,undef,undef,undef],defers:= []})
  (fun x a' _ _ _ _ hs _ _=>hs) ?assign ?body ?done ?stop
 case hIx=>
  rintro M c pre A C J h d hr;have g: ∀k,k<w.heap.size+5→some k≠J:=fun k f e=>by have:=(hr _ e.symm).1;omega
  exact⟨h.c,(d.block _ (zE h.rs) (g _ zk)).trans h.rs,h.at',
   ⟨d.os.trans h.ch.os,d.tape.trans h.ch.tape,d.output.trans h.ch.output,nz h.ch.size d.size,fun k f S=>(d.block k (nE f h.ch.size) (g _ zk)).trans (h.ch.block k f S)⟩⟩
 case hIF=>
  rintro M B A C h G I;exact⟨(G.bk _ (zE h.br)).trans h.br,(G.bk _ (zE h.rs)).trans h.rs,(G.bk _ (zE h.ln)).trans h.ln,h.no,h.ch.step G⟩
 case hIxF=>
  rintro M c B A C h G I;exact⟨h.c,(G.bk _ (zE h.rs)).trans h.rs,h.at',h.ch.step G⟩
 case h0=>
  intro V Z av;exact⟨(Z.block _ zk).trans x2,(Z.block _ zk).trans x3,(Z.block _ zk).trans y2,zn,X.step (zr.ofBelow Z 0 0)⟩
 case assign=>
  rintro M l' B x V K' ag P hi' q;simp only[NW];generalize (((TL t).getD x.2.val []).map (Value.int .u8)).toArray=cs at*;gi_wp2;exact q _ _ (qJ.refl _ _ _) (KpT.chg0 (zr.refl 0 0 V) (fun k f=>by unfold KA at f;have:=hi'.ch.size;omega)) hi' rfl
 case body=>
  rintro M l' B x a' V ag P hi' rfl an;have aw:=x.1.isLt;have aa:Hid (Yz (B++ [x])=(x.1.val:Int)+1):=VP B x;generalize (((TL t).getD x.2.val []).map (Value.int .u8)).toArray=cs at*;have q1:=ng hi'.br;have hwr:IntKind.i64.wrap ((x.1.val:Int)+1)=(x.1.val:Int)+1:=by rw[mS];omega
  have af: ∀k,KA (w.heap.size+4) lo hi k→k<V.heap.size∧(k<w.heap.size+2∨w.heap.size+4≤k):=fun k f=>by unfold KA at f;have:=hi'.ch.size;omega
  have m:Hid (∀p:Addr,(p=⟨w.heap.size+1+1,0,none⟩∨p=(zd (w.heap.size+3)))→ ∀v,(qJ O.heap.size M V (V.setCell p v)∧KpT (KA (w.heap.size+4) lo hi) (O.heap.size+2) V (V.setCell p v))∧zr 0 0 w (V.setCell p v)):=by
   intro p hp v;have ak:w.heap.size+2≤p.block∧p.block<w.heap.size+4:=by rcases hp with rfl|rfl<;>simp
   have L:zr (w.heap.size+2) (w.heap.size+4) V (V.setCell p v):=(zr.refl _ _ V).setCell (Or.inl ak) v;refine⟨⟨qJ.chg L P,KpT.chg L af (fun k h1 h2=>?_)⟩,hi'.ch.step L⟩;have f:k=w.heap.size+1+1∨k=w.heap.size+3:=zk;rcases f with rfl|rfl
   ·exact⟨_,_,_,hi'.rs,by unfold tyA;decide⟩
   ·exact⟨_,_,_,hi'.ln,by unfold tyA;decide⟩
  have q2:=ng hi'.rs;have q3:=oO hi'.rs;have q4:=ng hi'.ln;have q5:=oO hi'.ln;clear y1;by_cases U:(x.1.val:Int)=b
  ·have F:Hid ((x.1.val:Int)=b):=U;gi_wp2;refine⟨(m _ (Or.inl rfl) _).1,rfl,pB _ hi'.rs,⟨x,zn,F⟩,(m _ (Or.inl rfl) _).2⟩
  ·have F:Hid (¬(x.1.val:Int)=b):=U;gi_wp2;refine⟨(m _ (Or.inr rfl) _).1,?_,?_,?_,?_,(m _ (Or.inr rfl) _).2⟩
   ·exact(nY _ _ _ _ zn).trans hi'.br
   ·exact(nY _ _ _ _ zn).trans hi'.rs
   ·rw[aa.out];exact pB _ hi'.ln
   ·intro z hz;rcases nu.1 hz with hz|hz
    ·exact hi'.no z hz
    ·rw[nx.1 hz];exact F
 case done=>
  rintro M D B V hD hS hi' q;have R:=VO hS;have Q:((TL t).length:Int)≤b:=by
   rcases Int.lt_or_le b ((TL t).length:Int) with H|hle
   ·exfalso;have I:=NT (n:=(TL t).length) (i:=b.toNat);rw[←hS] at I;obtain⟨z,hz,e⟩:=m9.1 I;have e1:z.1.val=b.toNat:=nI Prod.fst e;exact hi'.no z hz zk
   ·exact hle
  have j:=E.out;rw[mM Q] at j;have s:=hi'.ln;rw[R,←j] at s;have ao:Hid (V.heap[w.heap.size+3]?=some (zi #[za K] 2)):=s;have q1:=ng s;have q2:=ng hi'.rs;have q3:=oO hi'.rs;have au:=hi'.ch.size;clear Q R hS s j;gi_wp2;have L:zr (w.heap.size+2) (w.heap.size+4) V (V.setCell ⟨w.heap.size+1+1,0,none⟩ (za K)):=(zr.refl _ _ V).setCell (Or.inl zn) _;have hb:=pB (za K) hi'.rs;have ac:=(zE q);have ae:=(L.bk D ac).trans q
  have cw:=hi'.ch.step L;generalize V.setCell ⟨w.heap.size+1+1,0,none⟩ (za K)=Y at*;refine⟨zn,.inl ⟨_,_,rfl,oE ae,?_⟩⟩;refine⟨_,zH Tryz.results70 rfl (Ui ((World.putObj_heap_other zk).trans hb)),rfl,?_⟩;exact cw.step (l:=D) (r:=D+1) ⟨rfl,rfl,rfl,zn,fun k _ S=>World.putObj_heap_other zk⟩
 case stop=>
  rintro M D c B V hD ah ⟨rfl,am,⟨z,hz,ax⟩,aj⟩ q;have H: ¬((TL t).length:Int)≤b:=by
   have I:(z.1.val,z.2.val)∈Qv B:=m9.2 ⟨z,hz,rfl⟩;rw[ah] at I;have:=(NU I).1;have:=z.2.isLt;simp only at*;omega
  have j:=E.out;rw[mN H] at j;have ab:Hid (K=0):=j;clear H j;gi_wp2;refine⟨zn,.inl ⟨_,_,rfl,oE q,?_⟩⟩;refine⟨_,zH Tryz.results70 rfl (Ui ((World.putObj_heap_other zk).trans am)),by rw[ab.out],?_⟩;exact aj.step (l:=D) (r:=D+1) ⟨rfl,rfl,rfl,zn,fun k _ S=>World.putObj_heap_other zk⟩
attribute [local go_sem] oq
theorem YQ {o:Oper}{a:Act}{K:Act→World→Prop}{Q:Exit→Act→World→Prop}(s x:Operand)
  (E:o.op= .call {callee:= .builtin .append,args:= #[s,x],argTypes:= #[22,22]})
  (base:Nat) (n:Value) (xs:List Int) (hs:a.eval s=n) (C:zu w base 5 n xs) (d:base≤w.heap.size) (lo hi:Nat) (A:Value) (ys:List Int) (G:a.eval x=A) (F:zC w lo hi .u8 A ys) (z:0<ys.length) (I:xs.length+ys.length≤1048576)
  (h: ∀p w',zu w' base 5 p (xs++ys)→w.grownBy w' n.ownBlock→K (a.put o.dst p) w'):o.wp Tryz.prog a w K Q:=by
 obtain⟨i,hi,r,t,v⟩:=na Tryz.infoU1;obtain⟨B,cap,rfl,_,_,f⟩:=F;obtain⟨b,c,rfl,D⟩: ∃b c,B=some ⟨b,c,none⟩∧ ∀i,i<ys.length→w.cell? ⟨b,c+i,none⟩=some (zb (ys.getD i 0)):=by
  rcases f with e|⟨b,c,e,_,_,h3⟩
  ·rw[e] at z;simp at z
  ·exact⟨b,c,e,h3⟩
 have q: ∀j u,(ys.map (Value.int .u8))[j]?=some u→w.cell? ((⟨b,c,none⟩:Addr).add j)=some u:=by
  intro j u y;have k:j<ys.length:=by have:=(nD.1 y).1;simpa using this
  rw[n9,D j k,←y];simp[k]
 have m:w.ownsRow base 5 1 n xs.length (xs.map (Value.int .u8)):=C;refine oS _ s x 22 E base 5 i (zb 0) 1 1 Tryz.underlying22 hi r t v rfl zp n xs.length (xs.map (Value.int .u8)) hs m ⟨b,c,none⟩ ys.length cap (ys.map (Value.int .u8)) G zn q (nf _ _) (by unfold maxLen;omega) zk d ?_;intro p H l g _;refine h p H ?_ g;unfold zu;rw[mL,m6];exact l
theorem Qq {tl:List (List Int)}(i:Fin tl.length):tl.getD i.val []∈tl:=by
 have h:=i.isLt;rw[show tl.getD i.val []=tl[i.val] by simp[h]];exact nj h
attribute [local go_sem] oq
theorem ET {t:Tx}(a: ∀x∈t.homes,Byt x.2): ∀b∈TL t,Byt b:=by
 intro b hb;unfold TL at hb;split at hb
 ·rcases nu.1 hb with hb|hb
  ·exact bd t.rV a b hb
  ·rw[nx.1 hb];exact Xp ((Jc).app (qE _ _))
 ·simp at hb
theorem Es (h: ∀b∈bs,b.length=64)(hi:i<bs.length):(bs.flatten.drop (i*64)).take 64=bs.getD i []:=by
 induction bs generalizing i with
 |nil=>simp at hi
 |cons b r ih=>
  have c:=h b zn
  cases i with
  |zero=>
   rw[oC,pZ,sN,oG zk,ny zk];rfl
  |succ i=>
   rw[oC,show(i+1)*64=b.length+i*64 by omega,pY,pp zk,nG,pI,ih (fun x a=>h x (by simp[a])) (by simpa using hi)];rfl
theorem EW {base:Nat}{sv:Value}(h:w.ownsRow base 78 64 sv n (bs.flatten.map (Value.int .u8)))(c: ∀b∈bs,b.length=64)(hi:i<bs.length): ∃g cap,sv=zg g n cap∧w.rangeAt g (i*64) ((bs.getD i []).map (Value.int .u8)):=by
 have e:=Jh c;rcases h.2 with⟨rfl,h0⟩|⟨g,cap,f,rfl,_⟩
 ·exfalso;have:=h.1;rw[h0,mO,e] at this;omega
 ·refine⟨g,cap,rfl,fun j v d=>?_⟩;have a:j<64:=by
   have:=(nD.1 d).1;rw[mO] at this;have k:bs.getD i []∈bs:=by rw[mV,mZ hi];exact nj hi
   rw[c _ k] at this;exact this
  rw[nA h (i*64+j) (by have:=h.1;rw[mO,e] at this;omega),←d,←Es c hi,nU,nU,oA,mM a,oQ]
def lG (w:World) (sa:Option Addr) (w':World):Prop:= ∀g,sa=some (zd g)→w'.heap[g]?=w.heap[g]?
structure ArI (w:World)(sv:Value)(bs tl:List (List Int))(pre:List (Fin 1000×Fin tl.length))(V:World):Prop where
 bb:V.heap[w.heap.size]?=some (zi #[sv] 96)
 rs:V.heap[w.heap.size+1+1]?=some (zi #[.bool false] 4)
 ln:V.heap[w.heap.size+3]?=some (zi #[za (Yz pre)] 2)
 al: ∀z∈pre,z.1.val<bs.length∧bs.getD z.1.val []=tl.getD z.2.val []
 ch:zr 0 0 w V
structure ArX (w:World)(bs tl:List (List Int))(c:Code)(pre:List (Fin 1000×Fin tl.length))(V:World):Prop where
 c:c= .ret
 rs:V.heap[w.heap.size+1+1]?=some (zi #[.bool false] 4)
 no: ∃z∈pre,¬(z.1.val<bs.length∧bs.getD z.1.val []=tl.getD z.2.val [])
 ch:zr 0 0 w V
theorem EI {v:Bool}(h:w.heap[b]?=some (zi #[.bool v] 4)):(loadVar 4 (zd b)).run Tryz.prog w= .ok (.bool v) w:=by
 have a:=ng h;simp[loadVar,isAgg,underlying,Tryz.underlying4,a,Result.andThen]
theorem Kr (w:World){lo hi base:Nat}{a sv:Value}{t:Tx}(hl:Qa t≤1048576)(a4:hi≤w.heap.size)(aj: ∀x∈t.homes,Byt x.2)(hM:Mag w)(h1:jy w lo hi a t)
  (hs:w.ownsRow base 78 64 sv bs.length (bs.flatten.map (Value.int .u8))) (hb: ∀b∈bs,b.length=64) (aP: ∀b∈bs,Byt b):
  Calls Tryz.prog 130 #[sv,a] w fun e w'=>e= .returned (.bool (decide (TL t=bs)))∧zr 0 0 w w':=by
 obtain⟨T,Z,rfl,p1,v1⟩:=h1;have a3:=hM.lt;obtain⟨a1,au⟩:=Ze aj;have aO:=ET aj;obtain⟨rz,ah⟩: ∃rz:Bool,Hid (rz=decide (TL t=bs)):=⟨_,rfl⟩;rw[←ah.out];obtain⟨B,sn,E,rfl⟩:=zF hs;obtain rfl:sn=bs.length:=by
  rcases hs.2 with⟨e,h0⟩|⟨g,cap,a0,e,_⟩
  ·cases e;exact h0.symm
  ·simp only[ns] at e;exact e.2.1
 have cA:zr 0 0 w (((w.alloc (zi #[zj B bs.length E] 96)).alloc (zi #[za t.seq,T,Z] 35)).alloc (zi #[.bool false] 4)):=((zr.al w).alloc _).alloc _;obtain⟨z1,z2,z3,z4⟩:=JZ w (zi #[zj B bs.length E] 96) (zi #[za t.seq,T,Z] 35) (zi #[.bool false] 4);refine(nP (n:=0)).1 ?_;refine rS Tryz.func130 rfl trivial ?_ rfl;simp only[Tryz.ntmps130,pA,m7,nH,Nat.reduceAdd,Nat.reduceSub,pL,pM,pO,pP,nG,oD];gi_wp2;generalize ((w.alloc (zi #[zj B bs.length E] 96)).alloc (zi #[za t.seq,T,Z] 35)).alloc (zi #[.bool false] 4)=wA at*
 obtain⟨y1,y2,y3⟩:=zU wA (zi #[za 0] 2) (zi #[za t.seq,T,Z] 35);have cB:zr 0 0 wA ((wA.alloc (zi #[za 0] 2)).alloc (zi #[za t.seq,T,Z] 35)):=(zr.al wA).alloc _;have sB:(wA.alloc (zi #[za 0] 2)).heap.size=w.heap.size+4:=by simp[z1]
 refine⟨trivial,rfl,(nP.2 (ZR _ _ _ _)).mono ?_⟩;rintro e w1 ⟨rfl,rfl⟩;rw[sB];generalize (wA.alloc (zi #[za 0] 2)).alloc (zi #[za t.seq,T,Z] 35)=u at*;rw[z1] at y1 y2 y3;have cL:zr 0 0 w u:=cA.trans cB;have x2:=cB.bt z2;have x3:=cB.bt z4;have ae:=bS (w.heap.size+4) lo hi t T Z u hl aj (hM.chg cL zk) y3 (p1.chg cL zk) (v1.chg cL zk);clear cB z2 z3 z4 z1 cA;gi_wp2;have aw: ∀M:Nat,OwnFrom u.heap.size (ArI w (zj B bs.length E) bs (TL t)):=by
  rintro M pre A C U h m hr;have f: ∀k,k<w.heap.size+5→some k≠U:=fun k p e=>by have:=(hr _ e.symm).1;omega
  exact⟨(m.block _ (zE h.bb) (f _ zk)).trans h.bb,(m.block _ (zE h.rs) (f _ zk)).trans h.rs,(m.block _ (zE h.ln) (f _ zk)).trans h.ln,h.al,
   ⟨m.os.trans h.ch.os,m.tape.trans h.ch.tape,m.output.trans h.ch.output,nz h.ch.size m.size,fun k p ho=>(m.block k (nE p h.ch.size) (f _ zk)).trans (h.ch.block k p ho)⟩⟩
 refine JI (n:=0) (Kp:=KpT (KA (w.heap.size+4) lo hi) (u.heap.size+2)) (gf:=72) (lb:= #[zh (w.heap.size+4)]) rfl (p9 Tryz.func72 zl rfl)
  ae (fun h=>h) (pg _ _) (fun _=>rfl) KpT.trans (fun V o _ hb=>KpT.put o hb (fun k p=>by unfold KA at p;omega))
  (fun _=>ArI w (zj B bs.length E) bs (TL t)) (fun _=>ArX w bs (TL t))
  aw ?hIx ?hIF ?hIxF ?h0
  (fun x a' V=> ∃P,u.heap.size≤P∧V.heap[P]?=some (zi (((TL t).getD x.2.val []).map (Value.int .u8)).toArray 78)∧a'= {tmps:= #[zj B bs.length E,.agg #[za t.seq,T,Z],zh w.heap.size,zh (w.heap.size+1),.pointer (some ⟨w.heap.size+1+1,0,none⟩),zh (w.heap.size+3),za (x.1.val:Int),zh P,.agg #[za t.seq,T,Z],.func (.func 72) #[] #[zh (w.heap.size+4)],za (x.1.val:Int),.agg (((TL t).getD x.2.val []).map (Value.int .u8)).toArray,undef,undef,undef,undef,undef,undef,undef,undef,undef,undef,undef,undef,undef,undef,undef,undef,undef,undef],defers:= []})
  ?hAx ?assign ?body ?done ?stop
 case hIx=>
  rintro M c pre A C U h m hr;have f: ∀k,k<w.heap.size+5→some k≠U:=fun k p e=>by have:=(hr _ e.symm).1;omega
  exact⟨h.c,(m.block _ (zE h.rs) (f _ zk)).trans h.rs,h.no,
   ⟨m.os.trans h.ch.os,m.tape.trans h.ch.tape,m.output.trans h.ch.output,nz h.ch.size m.size,fun k p ho=>(m.block k (nE p h.ch.size) (f _ zk)).trans (h.ch.block k p ho)⟩⟩
 case hIF=>
  rintro M O A C h hc hm;exact⟨(hc.bk _ (zE h.bb)).trans h.bb,(hc.bk _ (zE h.rs)).trans h.rs,(hc.bk _ (zE h.ln)).trans h.ln,h.al,h.ch.step hc⟩
 case hIxF=>
  rintro M c O A C h hc hm;exact⟨h.c,(hc.bk _ (zE h.rs)).trans h.rs,h.no,h.ch.step hc⟩
 case h0=>
  intro V hV a8;exact⟨(hV.block _ zk).trans x2,(hV.block _ zk).trans x3,(hV.block _ zk).trans y2,zn,cL.step (zr.ofBelow hV 0 0)⟩
 case hAx=>
  rintro x a' _ A C U ⟨P,h1,h2,h3⟩ m hr;exact⟨P,h1,Z7 h2 m (fun r e=>(hr r e).2),h3⟩
 case assign=>
  rintro M l' O x V K' aM ai hi' F;simp only[NW];have G:(((TL t).getD x.2.val []).map (Value.int .u8)).length=64:=by rw[mO];exact au _ (Qq x.2)
  have aJ: ∀v∈((TL t).getD x.2.val []).map (Value.int .u8),v.oneCell'=true:=nf _ _;have N:(Tryz.prog.info? 78).map (·.size)=some (((TL t).getD x.2.val []).map (Value.int .u8)).length:=by rw[G];kernel_rfl
  generalize ((TL t).getD x.2.val []).map (Value.int .u8)=cs at*;gi_wp2_with (refine pj rfl fun K hK=>?_;refine Zs (fun _ h=>by cases h) ?_;refine wp_store_row 78 (.tmp 7) (.tmp 11) rfl rfl V.heap.size rfl cs _ 78 rfl (zt V _) (by rw[G];rfl) N aJ ?_;intro wg aQ aR;refine hK _ _ ?_);have cv:zr 0 0 V wg:=(zr.al V).step aR (Or.inr (Or.inl nlR));refine F _ _ (qJ.chg cv ai) (KpT.chg0 cv (fun k p=>by unfold KA at p;omega)) ?_ ⟨V.heap.size,zk,aQ,rfl⟩
  exact aw M _ V wg none hi' (jB cv) (fun r e=>by cases e)
 case body=>
  rintro M l' O x a' V aM ai hi' ⟨P,a2,R,rfl⟩ aY;have aU:Tryz.prog.follows .mixedOrders=true:=zl;have ba:u.heap.size≤w.heap.size+5:=zk;have bc:w.heap.size+5≤u.heap.size:=zk;clear y1;have a9:=x.1.isLt;have aE:Hid (Yz (O++ [x])=(x.1.val:Int)+1):=VP O x;have hwr:IntKind.i64.wrap ((x.1.val:Int)+1)=(x.1.val:Int)+1:=by rw[mS];omega
  have aX:=hi'.ch.size;have ax: ∀k,KA (w.heap.size+4) lo hi k→k<V.heap.size∧(k<w.heap.size+2∨w.heap.size+4≤k):=fun k p=>by unfold KA at p;omega
  obtain⟨blk,s⟩: ∃blk,blk=(TL t).getD x.2.val []:=⟨_,rfl⟩;have ac:blk.length=64:=by rw[s];exact au _ (Qq x.2)
  have ad:Byt blk:=by rw[s];exact aO _ (Qq x.2)
  rw[←s] at R⊢;have aa:Hid (blk=(TL t).getD x.2.val []):=s;clear s;obtain⟨cs,ag⟩: ∃cs,Hid (cs=blk.map (Value.int .u8)):=⟨_,rfl⟩;rw[←ag.out] at R⊢;have q4:=ng hi'.ln;have q5:=oO hi'.ln;have I:zr (w.heap.size+2) (w.heap.size+4) V (V.setCell (zd (w.heap.size+3)) (za ((x.1.val:Int)+1))):=(zr.refl _ _ V).setCell (Or.inl zn) _;have ap:Hid (ArI w (zj B bs.length E) bs (TL t) O V):=hi';have Y0:(V.setCell (zd (w.heap.size+3)) (za ((x.1.val:Int)+1))).heap[w.heap.size+3]?=some (zi #[za ((x.1.val:Int)+1)] 2):=pB _ hi'.ln
  have Y1:(V.setCell (zd (w.heap.size+3)) (za ((x.1.val:Int)+1))).heap[w.heap.size]?=some (zi #[zj B bs.length E] 96):=(nY _ _ _ _ zn).trans hi'.bb;have Y2:(V.setCell (zd (w.heap.size+3)) (za ((x.1.val:Int)+1))).heap[w.heap.size+1+1]?=some (zi #[.bool false] 4):=(nY _ _ _ _ zn).trans hi'.rs;have Y3:(V.setCell (zd (w.heap.size+3)) (za ((x.1.val:Int)+1))).heap[P]?=some (zi cs.toArray 78):=(nY _ _ _ _ (by simp;omega)).trans R
  have a6:(V.setCell (zd (w.heap.size+3)) (za ((x.1.val:Int)+1))).heap.size=V.heap.size:=zn;have CV:zr 0 0 w (V.setCell (zd (w.heap.size+3)) (za ((x.1.val:Int)+1))):=hi'.ch.step I;have KY:qJ u.heap.size M V (V.setCell (zd (w.heap.size+3)) (za ((x.1.val:Int)+1)))∧KpT (KA (w.heap.size+4) lo hi) (u.heap.size+2) V (V.setCell (zd (w.heap.size+3)) (za ((x.1.val:Int)+1))):=by
   refine⟨qJ.chg I ai,KpT.chg I ax (fun k h1 h2=>?_)⟩;have p:k=w.heap.size+1+1∨k=w.heap.size+3:=zk;rcases p with rfl|rfl
   ·exact⟨_,_,_,hi'.rs,by unfold tyA;decide⟩
   ·exact⟨_,_,_,hi'.ln,by unfold tyA;decide⟩
  clear hi' R I ae;gi_wp2;generalize V.setCell (zd (w.heap.size+3)) (za ((x.1.val:Int)+1))=Y at*;refine ZT (fun w':World=>(w'.heap[w.heap.size]?=some (zi #[zj B bs.length E] 96)∧w'.heap[w.heap.size+3]?=some (zi #[za ((x.1.val:Int)+1)] 2))∧w'.heap[P]?=some (zi cs.toArray 78)∧lG w B w') aU ?_;have HS:Hid ((fun w':World=>(w'.heap[w.heap.size]?=some (zi #[zj B bs.length E] 96)∧w'.heap[w.heap.size+3]?=some (zi #[za ((x.1.val:Int)+1)] 2))∧w'.heap[P]?=some (zi cs.toArray 78)∧lG w B w') Y.drew):=⟨⟨Y1,Y0⟩,Y3,fun g m=>CV.bk g (np hs g (by rw[m];rfl)).2⟩
  have cd:zr 0 0 Y Y.drew:=zr.drew (zr.refl _ _ Y);have HK:Hid (∀k:Nat,Y.drew.heap[k]?=Y.heap[k]?):=fun k=>rfl;have a7:Y.drew.heap.size=Y.heap.size:=rfl;have Z2:Y.drew.heap[w.heap.size+1+1]?=some (zi #[.bool false] 4):=Y2;have ao:Hid (zr 0 0 w Y.drew):=CV.drew;have Q:Hid (qJ u.heap.size M V Y.drew∧KpT (KA (w.heap.size+4) lo hi) (u.heap.size+2) V Y.drew):=⟨⟨KY.1.size,KY.1.same⟩,KY.2⟩;clear cd HK KY CV Y0 Y1 Y2 Y3 q4 q5
  generalize Y.drew=X at*;have q2:=ng Z2;have q3:=oO Z2;have af:Hid (X.heap[w.heap.size+1+1]?=some (zi #[.bool false] 4)):=Z2;have HX:Hid (¬(x.1.val<bs.length∧bs.getD x.1.val []=(TL t).getD x.2.val [])→(qJ u.heap.size M V (X.setCell ⟨w.heap.size+1+1,0,none⟩ (.bool false))∧KpT (KA (w.heap.size+4) lo hi) (u.heap.size+2) V (X.setCell ⟨w.heap.size+1+1,0,none⟩ (.bool false)))∧ArX w bs (TL t) .ret (O++ [x]) (X.setCell ⟨w.heap.size+1+1,0,none⟩ (.bool false))):=by
   intro aV;have I:zr (w.heap.size+2) (w.heap.size+4) X (X.setCell ⟨w.heap.size+1+1,0,none⟩ (.bool false)):=(zr.refl _ _ X).setCell (Or.inl zn) _;have hX:KpT (KA (w.heap.size+4) lo hi) (u.heap.size+2) X (X.setCell ⟨w.heap.size+1+1,0,none⟩ (.bool false)):=KpT.chg I (fun k p=>by have:=ax k p;omega) (fun k h1 h2=>by
    have p:k=w.heap.size+1+1∨k=w.heap.size+3:=zk;rcases p with rfl|rfl
    ·exact⟨_,_,_,af,by unfold tyA;decide⟩
    ·exact⟨_,_,_,HS.1.2,by unfold tyA;decide⟩)
   exact⟨⟨Q.1.trans (qJ.chg I),Q.2.trans hX⟩,rfl,pB _ af,⟨x,zn,aV⟩,ao.step I⟩
  refine rTk 0 (za ((x.1.val:Int)+1)) rfl (fun w' q=>by have h4:=ng q.1.2;go_simp) HS.out ?_;go_simp;refine rTk 1 (zj B bs.length E) rfl (fun w' q=>by have h4:=ng q.1.1;go_simp) HS.out ?_;go_simp;refine rT2 2 (za (bs.length:Int)) rfl ?_;go_simp;by_cases hc:bs.length≤x.1.val
  ·have aT:decide ((bs.length:Int)<(x.1.val:Int)+1)=true:=mR zk;refine rT2 3 (.bool true) rfl ?_;go_simp;refine rT2 4 (.bool true) rfl ?_;go_simp;refine jg 5 (undef) rfl zl zl zl zl (fun _ _ _ h=>h) (.inr ⟨zl,rfl⟩) HS ?_;go_simp;refine jg 6 (undef) rfl zl zl zl zl (fun _ _ _ h=>h) (.inr ⟨zl,rfl⟩) HS ?_;go_simp;refine jg 7 (undef) rfl zl zl zl zl (fun _ _ _ h=>h) (.inr ⟨zl,rfl⟩) HS ?_;go_simp;refine jg 8 (undef) rfl zl zl zl zl (fun _ _ _ h=>h) (.inr ⟨zl,rfl⟩) HS ?_
   go_simp;refine jg 9 (undef) rfl zl zl zl zl (fun _ _ _ h=>h) (.inr ⟨zl,rfl⟩) HS ?_;go_simp;refine jg 10 (undef) rfl zl zl zl zl (fun _ _ _ h=>h) (.inr ⟨zl,rfl⟩) HS ?_;go_simp;refine rT2 11 (.bool true) rfl ?_;go_simp;refine jf zl ?_;refine jV.mk ?_;have L:=HX.out (fun h=>zk);clear HX;gi_wp2;exact L
  ·have aT:decide ((bs.length:Int)<(x.1.val:Int)+1)=false:=mY zk;have S:x.1.val<bs.length:=zk;obtain⟨g,cap,ar,am⟩:=EW hs hb S;obtain⟨rfl,_,rfl⟩:B=some (zd g)∧bs.length=bs.length∧E=cap:=by simpa using ar
   obtain⟨d,y⟩: ∃d,d=bs.getD x.1.val []:=⟨_,rfl⟩;have aB:d∈bs:=by rw[y,mV,mZ S];exact nj S
   have ak:=hb _ aB;have ay:=aP _ aB;rw[←y] at am HX;have aH:Hid (w.rangeAt g (x.1.val*64) (d.map (Value.int .u8))):=am;have an:=Tryz.underlying78;have J: ∀W,(Op.equalIn 10000 78 (.agg (d.map (Value.int .u8)).toArray) (.agg (blk.map (Value.int .u8)).toArray)).run Tryz.prog W= .ok (decide (d=blk)) W:=fun W=>jG W _ 64 an ay ad ak ac;have N:(Tryz.prog.info? 78).map (·.size)=some (d.map (Value.int .u8)).length:=by rw[mO,ak];kernel_rfl
   have az:(Tryz.prog.info? 78).map (·.size)=some cs.length:=by rw[ag.out,mO,ac];kernel_rfl
   have aq:Hid (d=bs.getD x.1.val []):=y;rw[←ag.out] at J;generalize d.map (Value.int .u8)=ds at*;have a5:(x.1.val:Int)<(bs.length:Int):=zk;clear y am ak ay ad ar;refine rT2 3 (.bool false) rfl ?_;go_simp;refine rT2 4 (.bool false) rfl ?_;go_simp;refine rTk 5 (zg g bs.length E) rfl (fun w' q=>by have h4:=ng q.1.1;go_simp) HS.out ?_;go_simp;refine rT2 6 (za (x.1.val:Int)) rfl ?_;go_simp;refine rT2 7 (.pointer (some ⟨g,x.1.val*64,none⟩)) rfl ?_
   go_simp;refine jg 8 (.agg ds.toArray) rfl zl zl zl zl (fun _ _ _ h=>h) (nl zl 78 (.tmp 21) rfl g (x.1.val*64) rfl ds _ (fun w' q j v hj=>(nQ (a:=⟨g,x.1.val*64+j,none⟩) (q.2.2 g rfl)).trans (aH j v hj)) an rfl N) HS ?_;go_simp;refine jg 9 (.agg cs.toArray) rfl zl zl zl zl (fun _ _ _ h=>h) (nl zl 78 (.tmp 7) rfl P 0 rfl cs _ (fun w' q=>zy q.2.1) an rfl az) HS ?_;go_simp;by_cases he:d=blk
   ·have av: ∀W,(Op.equalIn 10000 78 (.agg ds.toArray) (.agg cs.toArray)).run Tryz.prog W= .ok true W:=fun W=>by rw[J W,mR he]
    clear J;refine rT2 10 (.bool false) rfl ?_;go_simp;refine rT2 11 (.bool false) rfl ?_;go_simp;refine jf zl ?_;refine jV.mk ?_;have HF:Hid ((qJ u.heap.size M V X∧KpT (KA (w.heap.size+4) lo hi) (u.heap.size+2) V X)∧ArI w (zg g bs.length E) bs (TL t) (O++ [x]) X):=by
     refine⟨Q,HS.1.1,af,by rw[aE.out];exact HS.1.2,fun z hz=>?_,ao⟩;rcases nu.1 hz with hz|hz
     ·exact ap.al z hz
     ·rw[nx.1 hz];exact⟨S,by rw[←aq.out,he,aa.out]⟩
    clear HX Q HS ap;gi_wp2;exact HF
   ·have av: ∀W,(Op.equalIn 10000 78 (.agg ds.toArray) (.agg cs.toArray)).run Tryz.prog W= .ok false W:=fun W=>by rw[J W,mY he]
    clear J;refine rT2 10 (.bool true) rfl ?_;go_simp;refine rT2 11 (.bool true) rfl ?_;go_simp;refine jf zl ?_;refine jV.mk ?_;have L:=HX.out (fun h=>he (by rw[aa.out];exact h.2));clear HX;gi_wp2;exact L
 case done=>
  rintro M D O V hD hS hi' F;have aA:=VO hS;have ab: ∀i,i<(TL t).length→i<bs.length∧bs.getD i []=(TL t).getD i []:=fun i hi=>by
   have hm:=NT hi;rw[←hS] at hm;obtain⟨z,hz,e⟩:=m9.1 hm;have e1:z.1.val=i:=nI Prod.fst e;have e2:z.2.val=i:=nI Prod.snd e;have:=hi'.al z hz;rw[e1,e2] at this;exact this
  have H:rz=decide (((TL t).length:Int)=(bs.length:Int)):=by
   rw[ah.out];congr 1;apply propext;constructor
   ·intro h;rw[h]
   ·intro h;apply p8
    ·omega
    ·intro i h1 h2;have:=(ab i h1).2;simp only[mV,mZ h1,mZ h2,Option.getD_some] at this;exact this.symm
  have G:=hi'.ln;rw[aA] at G;have q1:=ng G;have q2:=ng hi'.rs;have q3:=oO hi'.rs;have q4:=ng hi'.bb;have aX:=hi'.ch.size;have aI:Hid (V.heap[w.heap.size+1+1]?=some (zi #[.bool false] 4)):=hi'.rs;have aF:Hid (zr 0 0 w V):=hi'.ch;have aC:decide (((TL t).length:Int)=(bs.length:Int))=rz:=H.symm;have aZ:(((TL t).length:Int)==(bs.length:Int))=rz:=by rw[←aC];rfl
  clear ab aA hS G hi' H;generalize ((TL t).length:Int)=m1 at*;gi_wp2;have I:zr (w.heap.size+2) (w.heap.size+4) V (V.setCell ⟨w.heap.size+1+1,0,none⟩ (.bool rz)):=(zr.refl _ _ V).setCell (Or.inl zn) _;have hb:=pB (.bool rz) aI;have aK:=(zE F);have aL:=(I.bk D aK).trans F;have cw:=aF.step I;generalize V.setCell ⟨w.heap.size+1+1,0,none⟩ (.bool rz)=Y at*;refine⟨zn,.inl ⟨_,_,rfl,oE aL,?_⟩⟩;refine⟨_,zH Tryz.results130 rfl (EI ((World.putObj_heap_other zk).trans hb)),rfl,?_⟩
  exact cw.step (l:=D) (r:=D+1) ⟨rfl,rfl,rfl,zn,fun k _ ho=>World.putObj_heap_other zk⟩
 case stop=>
  rintro M D c O V hD aN ⟨rfl,aW,⟨z,hz,aD⟩,aS⟩ F;have f: ¬TL t=bs:=by
   intro e;have hm:(z.1.val,z.2.val)∈Qv O:=m9.2 ⟨z,hz,rfl⟩;rw[aN] at hm;have e1:=(NU hm).1;have e2:=z.2.isLt;simp only at e1;rw[←e] at aD;exact aD ⟨zk,by rw[e1]⟩
  have H:=ah.out;rw[mY f] at H;have aG:Hid (rz=false):=H;clear f H;gi_wp2;refine⟨zn,.inl ⟨_,_,rfl,oE F,?_⟩⟩;refine⟨_,zH Tryz.results130 rfl (EI ((World.putObj_heap_other zk).trans aW)),by rw[aG.out],?_⟩;exact aS.step (l:=D) (r:=D+1) ⟨rfl,rfl,rfl,zn,fun k _ ho=>World.putObj_heap_other zk⟩
end Go.Proofs.YthdeofoleiiibaaGreatDoor
