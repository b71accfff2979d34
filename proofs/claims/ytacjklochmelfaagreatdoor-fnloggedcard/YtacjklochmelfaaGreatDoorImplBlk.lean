import Derived.Test.YtacjklochmelfaaGreatDoorImplAhead
import Derived.Test.YtacjklochmelfaaGreatDoorHeldW
import Derived.Test.YtacjklochmelfaaGreatDoorTxnImpl2
import Derived.Test.YtacjklochmelfaaGreatDoorJReadC
import Derived.Test.YtacjklochmelfaaGreatDoorSurvLast
import Derived.Test.YtacjklochmelfaaGreatDoorTagOwn
namespace Go.Proofs.YtacjklochmelfaaGreatDoor
open Go.RowKit Go.Shelf
set_option maxRecDepth 100000
set_option maxHeartbeats 16000000
attribute [local go_sem] Oper.semAt_some
def U7 (tl:List (List Int)) (z:Fin 1000×Fin tl.length):Array Value:= #[za (z.1.val:Int),.agg ((tl.getD z.2.val []).map (Value.int .u8)).toArray]
def Qn (n:Nat):List (Nat×Nat):=(List.range n).map fun i=>(i,i)
def ZD {K:Nat} (zs:List (Fin 1000×Fin K)):List (Nat×Nat):=zs.map fun z=>(z.1.val,z.2.val)
def zO {K K':Nat} (h:K≤K') (pre:List (Fin K)):List (Fin 1000×Fin K'):=pre.zipIdx.map fun z=>(⟨z.2 % 1000,Nat.mod_lt _ (by omega)⟩,⟨z.1.val,by have:=z.1.isLt;omega⟩)
theorem adk {K K':Nat}(h:K≤K')(pre:List (Fin K))(x:Fin K):zO h (pre++ [x])=zO h pre++ [(⟨pre.length % 1000,Nat.mod_lt _ (by omega)⟩,⟨x.val,by have:=x.isLt;omega⟩)]:=by
 unfold zO;rw[List.zipIdx_append,List.map_append];simp
theorem X0 {K K':Nat}(h:K≤K')(pre:List (Fin K)):(zO h pre).length=pre.length:=by unfold zO;simp
theorem aas {K K':Nat}(h:K≤K')(pre:List (Fin K))(hl:pre.length≤1000)(hp:pre.map Fin.val=List.range pre.length):ZD (zO h pre)=Qn pre.length:=by
 unfold ZD zO Qn;apply List.ext_getElem
 ·simp
 ·intro i h1 h2;have hi:i<pre.length:=by simpa using h2
  have hx:pre[i].val=i:=by
   have:=congrArg (fun l=>l[i]?) hp;simpa [hi] using this
  simp[hx,Nat.mod_eq_of_lt (show i<1000 by omega)]
theorem Xb (w:World)(x y z:Value):
  Calls Tryz.prog 61 #[.agg #[x,y,z]] w fun e w'=>e= .returned (.func (.func 94) #[] #[.pointer (some (zd w.heap.size))])∧w'=w.alloc (.cells #[x,y,z] 35):=by
 go_enter Tryz.func61,Tryz.ntmps61;go_wp2;go_ret;exact⟨rfl,rfl⟩
theorem j9 (w:World)(x y z:Value):
  Calls Tryz.prog 27 #[.agg #[x,y,z]] w fun e w'=>e= .returned (.func (.func 59) #[] #[.pointer (some (zd w.heap.size))])∧w'=w.alloc (.cells #[x,y,z] 35):=by
 go_enter Tryz.func27,Tryz.ntmps27;go_wp2;go_ret;exact⟨rfl,rfl⟩
def XX (bs:List (List Int)):Nat:=4294967295-reg 4294967295 (nb bs.flatten)
theorem abg (bs:List (List Int))(b:List Int):4294967295-reg (4294967295-XX bs) (nb b)=XX (bs++ [b]):=by
 unfold XX;have h:=Je (nb bs.flatten) 4294967295 (by omega);rw[show 4294967295-(4294967295-reg 4294967295 (nb bs.flatten))=reg 4294967295 (nb bs.flatten) by omega,List.flatten_append,List.flatten_cons,List.flatten_nil,List.append_nil];unfold nb;rw[List.map_append,Nv]
theorem acx (bs:List (List Int)):((XX bs:Nat):Int)=jW bs.flatten:=by
 unfold XX jW;have h:=Je (nb bs.flatten) 4294967295 (by omega);omega
theorem aak (bs:List (List Int)):XX bs≤4294967295:=by unfold XX;omega
theorem Sm.keep {w w':World}{b:Nat}{d z:Int}{k:Nat}(h:Sm w b d z k)(hb:w'.heap[b]?=w.heap[b]?):Sm w' b d z k:=
 ⟨(World.cell?_of_block (a:=(zd b)) hb).trans h.c0,(World.cell?_of_block (a:=⟨b,1,none⟩) hb).trans h.c1,fun o=>(World.frozen?_of_block (a:=⟨b,o,none⟩) hb).trans (h.fr o),
  fun i hi=>let ⟨x,hx⟩:=h.ex i hi;⟨x,(World.cell?_of_block (a:=⟨b,3+i,none⟩) hb).trans hx⟩,fun i hi=>(World.cell?_of_block (a:=⟨b,3+i,none⟩) hb).trans (h.tab i hi),let ⟨cs,hc⟩:=h.ty;⟨cs,hb.trans hc⟩⟩
theorem acy:XX []=0:=by
 unfold XX nb;rw[List.flatten_nil,List.map_nil];show 4294967295-4294967295=0;omega
theorem SmR.keep {w w':World}{b:Nat}(h:SmR w b)(hb:w'.heap[b]?=w.heap[b]?):SmR w' b:=h.elim (fun h=>Or.inl (Sm.keep h hb)) (fun h=>Or.inr (Sm.keep h hb))
theorem SmR.ty {w:World}{b:Nat}(h:SmR w b): ∃cs:Array Value,w.heap[b]?=some (.cells cs 132 (0,0)):=h.elim (fun h=>h.ty) (fun h=>h.ty)
structure ofI (W:World)(l Bt lo hi s M:Nat)(t:Tx)(po:Option Addr)(pcap:Nat)(ao:Option Addr)(cap:Nat)(hKK:(BL t.seq t.homes t.revs).length≤(TL t).length)(J:Nat→List (Fin 1000×Fin (TL t).length)→World→Prop)(pre:List (Fin (BL t.seq t.homes t.revs).length))(V:World):Prop where
 j:J M (zO hKK pre) V
 yb:V.heap[W.heap.size]?=some (.cells #[.func (.yield l) #[] #[]] 117 (0,0))
 ks:qd (KA Bt lo hi) W V
 sr:SmR V s
 sm:V.heap[s+1]?=some (.cells #[.int .u32 (XX (pre.map fun x=>(BL t.seq t.homes t.revs).getD x.val []):Nat)] 121 (0,0))
 ct:V.heap[s+1+1]?=some (.cells #[za (pre.length:Int)] 2 (0,0))
 bt:V.heap[s+3]?=some (.cells #[za t.seq,.slice po t.homes.length pcap,.slice ao t.revs.length cap] 35 (0,0))
def ofX {t:Tx} (M:Nat) (hKK:(BL t.seq t.homes t.revs).length≤(TL t).length) (Jx:Nat→List (Fin 1000×Fin (TL t).length)→World→Prop) (c:Code) (pre:List (Fin (BL t.seq t.homes t.revs).length)) (V:World):Prop:=c= .ret∧Jx M (zO hKK pre) V
theorem Nj (Bt lo hi:Nat)(t:Tx)(hv rv:Value)(w:World)(hl:Z3 t≤1048576)(hby: ∀x∈t.homes,Byt x.2)(hM:Mag w)(hBt:w.heap[Bt]?=some (.cells #[za t.seq,hv,rv] 35 (0,0)))
  (h1:qF w lo hi hv t.homes) (h2:zr w lo hi .i64 rv t.revs) (hhi:hi≤w.heap.size):
  adv Tryz.prog 59 #[.pointer (some (zd Bt))] (U7 (TL t)) (KpT (KA Bt lo hi))
   (fun zs=>ZD zs=Qn (TL t).length) (fun zs=>ZD zs=Qn zs.length) 500 w:=fun l J Jx W hW hJ hJx hJF hJxF hY h0=>by
 have hBtl:=(gLt hBt)
 have hMl:=hM.lt
 have hszW:=hW.size
 have hKA: ∀k,KA Bt lo hi k→k<W.heap.size:=fun k hk=>by unfold KA at hk;omega
 obtain⟨po,pcap,rfl⟩:=h1.slice
 obtain⟨ao,cap,rfl⟩:=h2.slice
 have HBt:Hid (∀V,qd (KA Bt lo hi) W V→V.heap[Bt]?=some (.cells #[za t.seq,.slice po t.homes.length pcap,.slice ao t.revs.length cap] 35 (0,0))):=fun V h=>(h Bt (Or.inl rfl)).trans ((hW.block Bt hBtl).trans hBt)
 have HP:Hid (∀V,qd (KA Bt lo hi) W V→qF V lo hi (.slice po t.homes.length pcap) t.homes):=fun V h=>h1.keep (fun b hb1 hb2=>(h b (Or.inr (Or.inl ⟨hb1,hb2⟩))).trans (hW.block b (by omega)))
 have HR:Hid (∀V,qd (KA Bt lo hi) W V→zr V lo hi .i64 (.slice ao t.revs.length cap) t.revs):=fun V h=>h2.keep (fun b hb1 hb2=>(h b (Or.inr (Or.inl ⟨hb1,hb2⟩))).trans (hW.block b (by omega)))
 have HM:Hid (∀V,qd (KA Bt lo hi) W V→Mag V):=fun V h=>by
  have hb:=(h 0 (Or.inr (Or.inr rfl))).trans (hW.block _ hMl)
  exact⟨(World.cell?_of_block (a:=(zd 0)) hb).trans hM.m0,(World.cell?_of_block (a:=⟨0,1,none⟩) hb).trans hM.m1,(World.cell?_of_block (a:=⟨0,2,none⟩) hb).trans hM.m2,(World.cell?_of_block (a:=⟨0,3,none⟩) hb).trans hM.m3⟩
 have K0:qd (KA Bt lo hi) W W:=fun _ _=>rfl
 have cA:Chg 0 0 W (W.alloc (.cells #[.func (.yield l) #[] #[]] 117)):=Chg.alloc (Chg.refl 0 0 W) _
 have zY:=zh W (.cells #[.func (.yield l) #[] #[]] 117)
 have sA:(W.alloc (.cells #[.func (.yield l) #[] #[]] 117)).heap.size=W.heap.size+1:=by simp
 have kA:qd (KA Bt lo hi) W (W.alloc (.cells #[.func (.yield l) #[] #[]] 117)):=fun k hk=>cA.block k (hKA k hk) (by omega)
 obtain⟨⟨t0,t1,t2⟩,_⟩:=tri (HBt.out _ kA)
 have hval:=JX (W.alloc (.cells #[.func (.yield l) #[] #[]] 117)) hl (show jI _ lo hi (.agg #[za t.seq,.slice po t.homes.length pcap,.slice ao t.revs.length cap]) t from⟨_,_,rfl,HP.out _ kA,HR.out _ kA⟩)
 have HMl:Hid (0<W.heap.size):=by show _<_;omega
 clear hM hBt h1 h2 hMl hBtl
 refine callsIn_of_wp_marks Tryz.func59 rfl trivial ?_ rfl
 simp only[Tryz.ntmps59,List.size_toArray,List.length_cons,List.length_nil,Nat.reduceAdd,Nat.reduceSub,Array.replicate_succ,Array.replicate_zero,List.push_toArray,List.append_toArray,List.nil_append,List.cons_append]
 gi_wp2
 refine⟨trivial,rfl,(callsIn_wide.2 hval).mono ?_⟩
 generalize W.alloc (.cells #[.func (.yield l) #[] #[]] 117)=wA at*
 rintro e w1 ⟨rfl,cV⟩
 have cAV:=cA.trans cV
 have zY1:=(cV.block _ (by omega) (by omega)).trans zY
 have s1:=cV.size
 have k1:qd (KA Bt lo hi) W w1:=fun k hk=>cAV.block k (hKA k hk) (by omega)
 obtain⟨⟨u0,u1,u2⟩,_⟩:=tri (HBt.out _ k1)
 clear hval t0 t1 t2 zY cA cV kA
 by_cases hvt:jx t
 case neg=>
  rw[z9 hvt]
  have hTL:TL t= []:=by unfold TL;rw[z9 hvt];rfl
  have hJ0:=h0 w1 (cAV.below (Or.inl (Nat.le_refl _)))
  gi_wp2
  refine⟨_,results_none rfl _ _ _,⟨_,rfl⟩,.inl ⟨_,[],by rw[hTL];rfl,hJ0⟩⟩
 rw[qz hvt]
 have zS:=Uh w1
 have hok:=OkT.of hvt hby
 have HTL:Hid (TL t=BL t.seq t.homes t.revs++ [Kf t.seq (BL t.seq t.homes t.revs)]):=by show _=_;unfold TL;rw[if_pos (qz hvt)]
 obtain⟨⟨_,hs1,hs2⟩,_⟩:=hvt
 have cB:Chg 0 0 w1 (((w1.alloc (.cells ZS 132)).alloc (.cells #[.int .u32 0] 121)).alloc (.cells #[za 0] 2)):=((Chg.alloc (Chg.refl 0 0 w1) _).alloc _).alloc _
 obtain⟨x1,x2,x3,x4⟩:=QW w1 (.cells ZS 132) (.cells #[.int .u32 0] 121) (.cells #[za 0] 2)
 have hSm0:Sm (((w1.alloc (.cells ZS 132)).alloc (.cells #[.int .u32 0] 121)).alloc (.cells #[za 0] 2)) w1.heap.size 0 0 0:=by
  refine Sm.keep (Sm.new w1) ?_;rw[Below.heap_alloc _ _ _ (by simp;omega),Below.heap_alloc _ _ _ (by simp)]
 have kB:qd (KA Bt lo hi) W (((w1.alloc (.cells ZS 132)).alloc (.cells #[.int .u32 0] 121)).alloc (.cells #[za 0] 2)):=fun k hk=>(cB.block k (by have:=hKA k hk;omega) (by omega)).trans (k1 k hk)
 obtain⟨⟨u0,u1,u2⟩,_⟩:=tri (HBt.out _ kB)
 gi_wp2
 refine⟨trivial,rfl,(callsIn_wide.2 (Xb _ _ _ _)).mono ?_⟩
 rintro e w2 ⟨rfl,rfl⟩
 have cC:Chg 0 0 (((w1.alloc (.cells ZS 132)).alloc (.cells #[.int .u32 0] 121)).alloc (.cells #[za 0] 2)) ((((w1.alloc (.cells ZS 132)).alloc (.cells #[.int .u32 0] 121)).alloc (.cells #[za 0] 2)).alloc (.cells #[za t.seq,.slice po t.homes.length pcap,.slice ao t.revs.length cap] 35)):=Chg.alloc (Chg.refl 0 0 _) _
 have x5:=zh (((w1.alloc (.cells ZS 132)).alloc (.cells #[.int .u32 0] 121)).alloc (.cells #[za 0] 2)) (.cells #[za t.seq,.slice po t.homes.length pcap,.slice ao t.revs.length cap] 35)
 have s5:((((w1.alloc (.cells ZS 132)).alloc (.cells #[.int .u32 0] 121)).alloc (.cells #[za 0] 2)).alloc (.cells #[za t.seq,.slice po t.homes.length pcap,.slice ao t.revs.length cap] 35)).heap.size=(((w1.alloc (.cells ZS 132)).alloc (.cells #[.int .u32 0] 121)).alloc (.cells #[za 0] 2)).heap.size+1:=by simp
 rw[x1] at x5 s5⊢
 clear u0 u1 u2 zS
 generalize (((w1.alloc (.cells ZS 132)).alloc (.cells #[.int .u32 0] 121)).alloc (.cells #[za 0] 2))=wB at*
 generalize wB.alloc (.cells #[za t.seq,.slice po t.homes.length pcap,.slice ao t.revs.length cap] 35)=wL at*
 obtain⟨s,hs⟩: ∃s,s=w1.heap.size:=⟨_,rfl⟩
 rw[←hs] at x1 x2 x3 x4 x5 s5 hSm0 s1⊢
 have cBC:=cB.trans cC
 have cL:Chg 0 0 W wL:=cAV.trans cBC
 have kL:qd (KA Bt lo hi) W wL:=fun k hk=>cL.block k (hKA k hk) (by omega)
 have z0:=(cBC.block _ (by omega) (by omega)).trans zY1
 have z2:=(cC.block s (by omega) (by omega)).trans x2
 have z3:=(cC.block (s+1) (by omega) (by omega)).trans x3
 have z4:=(cC.block (s+1+1) (by omega) (by omega)).trans x4
 have hSmL:=Sm.keep hSm0 (cC.block s (by omega) (by omega))
 have hKK:(BL t.seq t.homes t.revs).length≤(TL t).length:=by rw[HTL.out,List.length_append];omega
 obtain⟨i1,i2⟩:=VG 128 (q:=t.seq) (hs:=t.homes) (rs:=t.revs) (by omega) hok
 have hByt:=EQ (q:=t.seq) t.revs hby
 have hTLx: ∀x,x<(BL t.seq t.homes t.revs).length→(TL t).getD x []=(BL t.seq t.homes t.revs).getD x []:=fun x hx=>by
  rw[HTL.out];simp only[List.getD_eq_getElem?_getD];rw[List.getElem?_append_left hx]
 have hseq:=aav (s+3) lo hi t.seq t.homes t.revs (.slice po t.homes.length pcap) (.slice ao t.revs.length cap) wL hok (by omega) (HM.out wL kL) x5 (HP.out wL kL) (HR.out wL kL) (by omega)
 clear cB cC cBC x2 x3 x4 hSm0 kB k1 zY1 cAV hs
 gi_wp2
 have hI':OwnFrom wL.heap.size (ofI W l Bt lo hi s wL.heap.size t po pcap ao cap hKK J):=
  fun pre A C row hi' hg hr=>by
   have hne: ∀k,k<wL.heap.size→some k≠row:=fun k hk e=>by have:=(hr _ e.symm).1;omega
   have hal:=(gLt hi'.bt);refine⟨hJ _ _ A C row hi'.j hg (fun r e=>⟨by have:=(hr r e).1;omega,(hr r e).2⟩),(hg.block _ (by omega) (hne _ (by omega))).trans hi'.yb,?_,?_,(hg.block _ (by omega) (hne _ (by omega))).trans hi'.sm,(hg.block _ (by omega) (hne _ (by omega))).trans hi'.ct,(hg.block _ (by omega) (hne _ (by omega))).trans hi'.bt⟩
   ·intro k hk;have hkl:=hKA k hk;exact(hg.block k (by omega) (hne _ (by omega))).trans (hi'.ks k hk)
   ·exact hi'.sr.keep (hg.block s (by omega) (hne _ (by omega)))
 refine QE (n:=0) (Kp:=KpT (KA (s+3) lo hi) (wL.heap.size+2)) (gf:=94) (lb:= #[.pointer (some (zd (s+3)))]) rfl (enters_of Tryz.func94 (by kernel_rfl) rfl)
  hseq (fun h=>h) (Below.refl _ _) (fun _=>rfl) KpT.trans (fun V o _ hb=>KpT.put o hb (fun k hk=>by unfold KA at hk;omega) (by omega))
  (ofI W l Bt lo hi s wL.heap.size t po pcap ao cap hKK J) (ofX wL.heap.size hKK Jx)
  ?hI ?hIx ?h0 (fun x a' V=> ∃Bx,wL.heap.size≤Bx∧V.heap[Bx]?=some (.cells (((BL t.seq t.homes t.revs).getD x.val []).map (Value.int .u8)).toArray 72 (0,0))∧a'= {tmps:= #[.func (.yield l) #[] #[],.pointer (some (zd Bt)),.pointer (some (zd W.heap.size)),.pointer (some (zd s)),.pointer (some (zd (s+1))),.pointer (some ⟨s+1+1,0,none⟩),.pointer (some (zd Bx)),.agg #[za t.seq,.slice po t.homes.length pcap,.slice ao t.revs.length cap],.bool true,.bool false,.agg #[za t.seq,.slice po t.homes.length pcap,.slice ao t.revs.length cap],.func (.func 94) #[] #[.pointer (some (zd (s+3)))],.agg (((BL t.seq t.homes t.revs).getD x.val []).map (Value.int .u8)).toArray,undef,undef,undef,undef,undef,undef,undef,undef,undef,undef,undef,undef,undef,undef,undef,undef,undef,undef,undef,undef,undef],defers:= []})
  ?hAx ?assign ?body ?done ?stop
 case hI=>
  exact hI'
 case hIx=>
  exact fun c pre A C row hs' hg hr=>by
   obtain⟨h1,h2⟩:=hs';exact⟨h1,hJx _ _ A C row h2 hg (fun r e=>⟨by have:=(hr r e).1;omega,(hr r e).2⟩)⟩
 case h0=>
  intro V hV hsz;have cV:=Chg.ofBelow hV 0 0;refine⟨?_,(hV.block _ (by omega)).trans z0,?_,Or.inl (Sm.keep hSmL (hV.block _ (by omega))),by rw[List.map_nil,acy];exact(hV.block _ (by omega)).trans z3,(hV.block _ (by omega)).trans z4,(hV.block _ (by omega)).trans x5⟩
  ·have h:=h0 wL (cL.below (Or.inl (Nat.le_refl _)));exact hJ _ _ wL V none h (qT cV) (fun r e=>by cases e)
  ·intro k hk;have hkl:=hKA k hk;exact(hV.block k (by omega)).trans (kL k hk)
 case hAx=>
  rintro x a' _ A C row ⟨Bx,h1,h2,h3⟩ hg hr;exact⟨Bx,h1,Zk h2 hg (fun r e=>(hr r e).2),h3⟩
 case assign=>
  rintro l' pre x V K' hMV hrc hi' hK';simp only[abS];have hx:=x.isLt;have hln:(((BL t.seq t.homes t.revs).getD x.val []).map (Value.int .u8)).length=64:=by
   rw[List.length_map,show(BL t.seq t.homes t.revs).getD x.val []=(BL t.seq t.homes t.revs)[x.val] by simp[List.getD_eq_getElem?_getD,hx]];exact i1 _ (List.getElem_mem hx)
  have h1c: ∀v∈((BL t.seq t.homes t.revs).getD x.val []).map (Value.int .u8),v.oneCell'=true:=ints_oneCell _ _;have hics:(Tryz.prog.info? 72).map (·.size)=some (((BL t.seq t.homes t.revs).getD x.val []).map (Value.int .u8)).length:=by rw[hln];kernel_rfl
  generalize ((BL t.seq t.homes t.revs).getD x.val []).map (Value.int .u8)=cs at*;gi_wp2_with (refine wpListIn_plain rfl fun K hK=>?_;refine jH (fun _ h=>by cases h) ?_;refine wp_store_row 72 (.tmp 6) (.tmp 12) rfl rfl V.heap.size rfl cs _ 72 rfl (zh V _) (by rw[hln];rfl) hics h1c ?_;intro wg hbg hcg;refine hK _ _ ?_);have cv:Chg 0 0 V wg:=(Chg.alloc (Chg.refl 0 0 V) _).step hcg (Or.inr (Or.inl (Nat.le_refl _)))
  have hal:=(gLt hi'.bt);refine hK' _ _ ⟨cv.size,cv.block _ (by omega) (by omega),cv.block _ (by omega) (by omega)⟩ (KpT.chg0 cv (fun k hk=>by unfold KA at hk;omega)) ?_ ⟨V.heap.size,by omega,hbg,rfl⟩;exact hI' _ V wg none hi' (qT cv) (fun r e=>by cases e)
 case body=>
  rintro l' pre x a' V hMV ⟨r0,hrc⟩ hi' ⟨Bx,hBx,hbx,rfl⟩ hlen;have hmx:Tryz.prog.follows .mixedOrders=true:=by kernel_rfl
  have hpl:pre.length<500:=by unfold pcN at hlen;omega
  have hx:=x.isLt;have hgx:(BL t.seq t.homes t.revs).getD x.val []=(BL t.seq t.homes t.revs)[x.val]:=by simp[List.getD_eq_getElem?_getD,hx]
  obtain⟨blk,hblk⟩: ∃blk,blk=(BL t.seq t.homes t.revs).getD x.val []:=⟨_,rfl⟩;have hb64:blk.length=64:=by rw[hblk,hgx];exact i1 _ (List.getElem_mem hx)
  have hbB:Byt blk:=by rw[hblk,hgx];exact hByt _ (List.getElem_mem hx)
  have hTx:=hTLx x.val hx;rw[←hblk] at hTx hbx⊢;obtain⟨fn,tmps,assign,body,hy,hR⟩:=hY wL.heap.size (zO hKK pre) (⟨pre.length % 1000,Nat.mod_lt _ (by omega)⟩,⟨x.val,by omega⟩) V (by omega) (by omega) hi'.j (by rw[X0];omega);simp only[U7] at hy;rw[hTx,Nat.mod_eq_of_lt (show pre.length<1000 by omega)] at hy;obtain⟨c,hc⟩: ∃c,c=XX (pre.map fun x=>(BL t.seq t.homes t.revs).getD x.val []):=⟨_,rfl⟩;have hcl:c≤4294967295:=by rw[hc];exact aak _
  obtain⟨n',hn'⟩: ∃n',n'=XX ((pre++ [x]).map fun x=>(BL t.seq t.homes t.revs).getD x.val []):=⟨_,rfl⟩;have Hn':Hid _:=hn';have HSn:Hid (4294967295-reg (4294967295-c) (nb blk)=n'):=by
   show _=_;rw[hn',List.map_append,hc,abg,hblk];rfl
  have hsm:=hi'.sm;rw[←hc] at hsm;have Hb64:Hid _:=hb64;have HbB:Hid (Byt blk):=hbB;obtain⟨cs,hcs⟩: ∃cs,cs=blk.map (Value.int .u8):=⟨_,rfl⟩;rw[←hcs] at hy hbx⊢;have Hcs:Hid _:=hcs;have hln:cs.length=64:=by rw[hcs,List.length_map];exact hb64
  have hics:(Tryz.prog.info? 72).map (·.size)=some cs.length:=by rw[hln];kernel_rfl
  have u44:=Tryz.underlying72;have HRg:Hid _:=zj hbx;have q1:=Boxed.cell hi'.yb;have q2:=Boxed.cell hi'.ct;have HbX:Hid _:=hbx;have HZsn:Hid _:=adk hKK pre x;clear hcs hb64 hbB hblk hgx hTx hc hbx hln hseq hn';gi_wp2_with (refine wpListIn_plain rfl fun K hK=>?_;refine jH (fun _ h=>by cases h) ?_;refine wp_load_mid 72 (.tmp 6) rfl Bx 0 rfl cs _ HRg.out u44 rfl hics ?_;refine hK _ _ ?_);refine⟨rfl,(XQ hR l').mono ?_⟩
  rintro e V3 ⟨⟨m1,m2⟩,hres⟩;have hs3:=m1.size;have y0:=(m1.same W.heap.size (Nat.le_refl _) (by omega)).trans hi'.yb;have y1:=m1.same s (by omega) (by omega);have y2:=(m1.same (s+1) (by omega) (by omega)).trans hsm;have y3:=(m1.same (s+1+1) (by omega) (by omega)).trans hi'.ct;have y4:=(m1.same (s+3) (by omega) (by omega)).trans hi'.bt;have ys:=hi'.sr.keep y1;have yk:=hi'.ks.trans m2.1;have yb:=(m2.2.1 _ _ _ _ ado HbX.out).trans HbX.out
  have kq3:KpT (KA (s+3) lo hi) (wL.heap.size+2) V V3:=⟨fun k hk=>by
   rcases hk with rfl|hk|hk
   ·exact m1.same _ (by omega) (by omega)
   ·exact m2.1 k (Or.inr (Or.inl hk))
   ·exact m2.1 k (Or.inr (Or.inr hk)),m2.2.1,fun k o hk=>m2.2.2 k o (by omega)⟩
  have k20:jX wL.heap.size V V3:=⟨hs3,m2.2.2 _ _ (by omega) hrc.df rfl,m2.2.2 _ _ (by omega) hrc.lp rfl⟩;clear hy hR q1 q2 HRg y1;rcases hres with⟨rfl,hJ3⟩|⟨rfl,hJ3⟩
  ·rw[←HZsn.out] at hJ3;gi_wp2;refine Zb (fun _:World=>True) hmx ?_;have HT:Hid _:=trivial;have zd2:V3.drew.heap[s+1]?=some (.cells #[.int .u32 (c:Int)] 121 (0,0)):=y2;have zds:SmR V3.drew s:=ys.keep rfl;have zdb:V3.drew.heap[Bx]?=some (.cells cs.toArray 72 (0,0)):=yb;have cd:Chg 0 0 V3 V3.drew:=Chg.drew (Chg.refl _ _ V3);have sd:V3.drew.heap.size=V3.heap.size:=rfl;generalize V3.drew=X at*;refine rTk 1 (.slice (some (zd Bx)) 64 64) rfl (fun w' hw'=>by go_simp) trivial ?_
   go_simp;have qs:=Boxed.cell zd2;refine zL 0 rfl (by kernel_rfl) rfl (by kernel_rfl) ?_;go_simp;have hon:=acb X s c hcl zds blk Bx 0 64 HbB.out (by rw[Hb64.out];omega) (by omega) (fun i hi0=>by
    rw[Nat.zero_add];have h:=qq.cell (w:=X) (b:=Bx) (T:=72) (cs:=cs) zdb i (v:=zb (blk.getD i 0)) (by rw[Hcs.out];simp[List.getD_eq_getElem?_getD,hi0]);exact h)
   rw[HSn.out,Hb64.out] at hon;refine zL 2 rfl (by kernel_rfl) rfl (by kernel_rfl) ?_;refine zl 62 #[.pointer (some (zd s)),.int .u32 (c:Int),.slice (some (zd Bx)) 64 64] (by first|kernel_rfl|go_simp) hon ?_;rintro e X2 ⟨rfl,zm2,c2⟩;refine⟨_,rfl,trivial,?_⟩;have zf2:=(c2.block _ (by omega) (by omega)).trans zd2;have zt2:=(c2.block _ (by omega) (by omega)).trans ((cd.block _ (by omega) (by omega)).trans y3)
   clear hon qs;have e1:=Boxed.cell zf2;have e2:=Boxed.frozen zf2;go_simp;refine zL 3 rfl (by kernel_rfl) rfl (by kernel_rfl) ?_;go_simp;refine qD (by kernel_rfl) ?_;refine jh.mk ?_;have e3: ∀v:Value,(X2.setCell (zd (s+1)) v).heap[s+1+1]?=some (.cells #[za (pre.length:Int)] 2 (0,0)):=fun v=>(Below.heap_setCell _ _ _ _ (by simp)).trans zt2;have e4:=fun v=>Boxed.cell (e3 v);have e5:=fun v=>Boxed.frozen (e3 v)
   have hwr:IntKind.i64.wrap ((pre.length:Int)+1)=(pre.length:Int)+1:=by rw[IntKind.wrap_i64];omega
   have HFin:Hid (∀v u:Value,v= .int .u32 ((n':Nat):Int)→u=za ((pre.length:Int)+1)→(jX wL.heap.size V ((X2.setCell (zd (s+1)) v).setCell ⟨s+1+1,0,none⟩ u)∧KpT (KA (s+3) lo hi) (wL.heap.size+2) V ((X2.setCell (zd (s+1)) v).setCell ⟨s+1+1,0,none⟩ u))∧ofI W l Bt lo hi s wL.heap.size t po pcap ao cap hKK J (pre++ [x]) ((X2.setCell (zd (s+1)) v).setCell ⟨s+1+1,0,none⟩ u)):=by
    rintro v u rfl rfl;have cY:Chg s (s+3) V3 ((X2.setCell (zd (s+1)) (.int .u32 ((n':Nat):Int))).setCell ⟨s+1+1,0,none⟩ (za ((pre.length:Int)+1))):=
     (((cd.widen (by omega) (by omega)).trans (c2.widen (by omega) (by omega))).setCell (p:=(zd (s+1))) (Or.inl ⟨by show s≤s+1;omega,by show s+1<s+3;omega⟩) _).setCell (p:=⟨s+1+1,0,none⟩) (Or.inl ⟨by show s≤s+1+1;omega,by show s+1+1<s+3;omega⟩) _
    have t1:(X2.setCell (zd (s+1)) (.int .u32 ((n':Nat):Int))).heap[s+1]?=some (.cells #[.int .u32 ((n':Nat):Int)] 121 (0,0)):=Boxed.set _ zf2;have t2:((X2.setCell (zd (s+1)) (.int .u32 (n':Int))).setCell ⟨s+1+1,0,none⟩ (za ((pre.length:Int)+1))).heap[s+1+1]?=some (.cells #[za ((pre.length:Int)+1)] 2 (0,0)):=Boxed.set _ (e3 _);have t0:((X2.setCell (zd (s+1)) (.int .u32 (n':Int))).setCell ⟨s+1+1,0,none⟩ (za ((pre.length:Int)+1))).heap[s]?=X2.heap[s]?:=(Below.heap_setCell _ _ _ _ (by simp;omega)).trans (Below.heap_setCell _ _ _ _ (by simp))
    have t1':((X2.setCell (zd (s+1)) (.int .u32 (n':Int))).setCell ⟨s+1+1,0,none⟩ (za ((pre.length:Int)+1))).heap[s+1]?=some (.cells #[.int .u32 (n':Int)] 121 (0,0)):=(Below.heap_setCell _ _ _ _ (by simp)).trans t1;generalize (X2.setCell (zd (s+1)) (.int .u32 (n':Int))).setCell ⟨s+1+1,0,none⟩ (za ((pre.length:Int)+1))=Y at*;have hsY:=cY.size;have kY:KpT (KA (s+3) lo hi) (wL.heap.size+2) V3 Y:=KpT.chg cY (fun k hk=>by unfold KA at hk;have:=HMl.out;omega) (fun k h1 h2=>by
     have hk:k=s∨k=s+1∨k=s+1+1:=by omega
     rcases hk with rfl|rfl|rfl
     ·obtain⟨cs',hcs'⟩:=ys.ty;exact⟨_,_,_,hcs',by unfold tyA;decide⟩
     ·exact⟨_,_,_,y2,by unfold tyA;decide⟩
     ·exact⟨_,_,_,y3,by unfold tyA;decide⟩)
    refine⟨⟨⟨by have:=k20.size;omega,(cY.block _ (by omega) (by omega)).trans k20.b0,(cY.block _ (by omega) (by omega)).trans k20.b1⟩,kq3.trans kY⟩,hJF _ _ V3 Y hJ3 (cY.widen (by omega) (by omega)) (by omega),(cY.block _ (by omega) (by omega)).trans y0,fun k hk=>(cY.block k (by have:=hKA k hk;omega) (by have:=hKA k hk;omega)).trans (yk k hk),Or.inr (Sm.keep zm2 t0),by rw[←Hn'.out];exact t1',by rw[List.length_append];exact t2,(cY.block _ (by omega) (by omega)).trans y4⟩
   clear hJ3 zf2 zt2 c2 zm2 e3;gi_wp2;have hfin:=HFin.out _ _ rfl rfl
   first|exact hfin|(rw[s5] at hfin;exact hfin)
  ·rw[←HZsn.out] at hJ3;gi_wp2
   first|exact⟨⟨k20,kq3⟩,rfl,hJ3⟩|(rw[s5] at k20 kq3 hJ3;exact⟨⟨k20,kq3⟩,rfl,hJ3⟩)
 case done=>
  rintro D xs V hD hS hi' hK;have hDl:=(gLt hK);have hmx:Tryz.prog.follows .mixedOrders=true:=by kernel_rfl
  have hxl:xs.length=(BL t.seq t.homes t.revs).length:=by have:=congrArg List.length hS;simpa using this
  have hmap:(xs.map fun x=>(BL t.seq t.homes t.revs).getD x.val [])=BL t.seq t.homes t.revs:=by
   rw[show(fun x:Fin (BL t.seq t.homes t.revs).length=>(BL t.seq t.homes t.revs).getD x.val [])=(fun i=>(BL t.seq t.homes t.revs).getD i [])∘Fin.val from rfl,←List.map_map,hS];apply List.ext_getElem
   ·simp
   ·intro i h1 h2;simp[List.getD_eq_getElem?_getD,h2]
  have hsm:=hi'.sm;rw[hmap] at hsm;have hct:=hi'.ct;rw[hxl] at hct;have hcl:=aak (BL t.seq t.homes t.revs);have hcr:=acx (BL t.seq t.homes t.revs);obtain⟨n,Hn⟩: ∃n,Hid (n=(BL t.seq t.homes t.revs).length):=⟨_,rfl⟩;obtain⟨sm,Hsm⟩: ∃sm:Int,Hid (sm=((XX (BL t.seq t.homes t.revs):Nat):Int)):=⟨_,rfl⟩;have hn5:n<500:=by rw[Hn.out];omega
  have hsm0:0≤sm:=by rw[Hsm.out];omega
  have hsm1:sm≤4294967295:=by rw[Hsm.out];omega
  rw[←Hsm.out] at hsm hcr;rw[←Hn.out] at hct;have Hcr:Hid _:=hcr;have hnK:n<(TL t).length:=by rw[HTL.out,Hn.out,List.length_append];simp
  have HTn:Hid ((TL t).getD n []=qc (zm 4 (n:Int) t.seq++zk sm 4)):=by
   show _=_;rw[HTL.out,Hn.out,Hcr.out];simp[Kf]
  have HnT:Hid ((TL t).length=n+1):=by show _=_;rw[HTL.out,Hn.out];simp
  have hzl:(zO hKK xs).length=n:=by rw[X0,hxl,Hn.out]
  have HVz:Hid (ZD (zO hKK xs)=Qn n):=by
   show _=_;rw[aas hKK xs (by rw[hxl,←Hn.out];omega) (by rw[hS,hxl]),hxl,Hn.out]
  have Hfin:Hid (ZD (zO hKK xs++ [(⟨n % 1000,Nat.mod_lt _ (by omega)⟩,⟨n,hnK⟩)])=Qn (n+1)):=by
   show _=_;unfold ZD at*;rw[List.map_append,HVz.out];unfold Qn;rw[List.range_succ,List.map_append];simp[Nat.mod_eq_of_lt (show n<1000 by omega)]
  have Hzl:Hid _:=hzl;have hwr:IntKind.i64.wrap sm=sm:=by rw[IntKind.wrap_i64];omega
  have cd:=Chg.drew (Chg.refl 0 0 V);have kd:qd (KA Bt lo hi) W V.drew:=hi'.ks;have HS:Hid ((fun w':World=>(w'.heap[W.heap.size]?=some (.cells #[.func (.yield l) #[] #[]] 117 (0,0))∧w'.cell? (zd Bt)=some (za t.seq))∧w'.heap[s+1]?=some (.cells #[.int .u32 sm] 121 (0,0))∧w'.heap[s+1+1]?=some (.cells #[za n] 2 (0,0))) V.drew):=⟨⟨hi'.yb,(tri (HBt.out _ kd)).1.1⟩,hsm,hct⟩;have hsV:V.drew.heap.size=V.heap.size:=rfl
  have hltb:=(gLt hi'.bt);have hJV:=hi'.j;have HK:Hid _:=hK;clear hmap hcl hcr hxl hsm hct hzl hK hi' hS;gi_wp2;refine ZL (fun w':World=>(w'.heap[W.heap.size]?=some (.cells #[.func (.yield l) #[] #[]] 117 (0,0))∧w'.cell? (zd Bt)=some (za t.seq))∧w'.heap[s+1]?=some (.cells #[.int .u32 sm] 121 (0,0))∧w'.heap[s+1+1]?=some (.cells #[za n] 2 (0,0))) hmx ?_;generalize V.drew=X at*;refine vTk 0 (.func (.yield l) #[] #[]) rfl (fun w' hw'=>by have q1:=Boxed.cell hw'.1.1;go_simp) HS.out ?_
  go_simp;refine vTk 1 (za n) rfl (fun w' hw'=>by have q1:=Boxed.cell hw'.2.2;go_simp) HS.out ?_;go_simp;refine vTk 2 (.pointer (some (zd Bt))) rfl (fun w' hw'=>by go_simp) HS.out ?_;go_simp;refine vTk 3 (za t.seq) rfl (fun w' hw'=>by have q1:=hw'.1.2;go_simp) HS.out ?_;go_simp;refine vTk 4 (za n) rfl (fun w' hw'=>by have q1:=Boxed.cell hw'.2.2;go_simp) HS.out ?_;go_simp;refine vTk 5 (.int .u32 sm) rfl (fun w' hw'=>by have q1:=Boxed.cell hw'.2.1;go_simp) HS.out ?_
  go_simp;refine vTk 6 (za sm) rfl (fun w' hw'=>by go_simp) HS.out ?_;go_simp;refine vTk 7 (.agg #[za t.seq,za n,za sm]) rfl (fun w' hw'=>by go_simp) HS.out ?_;go_simp;have hMX:=HM.out X kd;refine j4 8 rfl (by kernel_rfl) rfl (by kernel_rfl) ?_;refine zl 63 #[.agg #[za t.seq,za n,za sm]] (by first|kernel_rfl|go_simp) (Kg X t.seq (n:Int) sm hMX.m0 hMX.m1 hMX.m2 hMX.m3) ?_;rintro e X2 ⟨rfl,c2⟩;have s2:=c2.size
  have k2:qd (KA Bt lo hi) W X2:=fun k hk=>(c2.block k (by have:=hKA k hk;omega) (by omega)).trans (kd k hk);have HS2:Hid ((fun w':World=>(w'.heap[W.heap.size]?=some (.cells #[.func (.yield l) #[] #[]] 117 (0,0))∧w'.cell? (zd Bt)=some (za t.seq))∧w'.heap[s+1]?=some (.cells #[.int .u32 sm] 121 (0,0))∧w'.heap[s+1+1]?=some (.cells #[za n] 2 (0,0))) X2):=⟨⟨(c2.block _ (by omega) (by omega)).trans HS.out.1.1,c2.cell HS.out.1.2 (by omega)⟩,(c2.block _ (by omega) (by omega)).trans HS.out.2.1,(c2.block _ (by omega) (by omega)).trans HS.out.2.2⟩
  refine⟨_,rfl,HS2.out,?_⟩;go_simp;have hE:=QY X2 (n:Int) t.seq sm (by omega) (by omega) (by omega) (pn2 (by omega) (by omega)) (pn4 (by omega) (by omega)) (pn4 (by omega) (by omega));rw[←HTn.out] at hE;refine j4 9 rfl (by kernel_rfl) rfl (by kernel_rfl) ?_;refine zl 64 #[.agg #[zb 106,zb 108,zb 111,zb 103,za 4,za n,za t.seq,za sm]] (by first|kernel_rfl|go_simp) hE ?_;rintro e X3 ⟨rfl,c3⟩;have s3:=c3.size
  have k3:qd (KA Bt lo hi) W X3:=fun k hk=>(c3.block k (by have:=hKA k hk;omega) (by omega)).trans (k2 k hk);have HS3:Hid ((fun w':World=>(w'.heap[W.heap.size]?=some (.cells #[.func (.yield l) #[] #[]] 117 (0,0))∧w'.cell? (zd Bt)=some (za t.seq))∧w'.heap[s+1]?=some (.cells #[.int .u32 sm] 121 (0,0))∧w'.heap[s+1+1]?=some (.cells #[za n] 2 (0,0))) X3):=⟨⟨(c3.block _ (by omega) (by omega)).trans HS2.out.1.1,c3.cell HS2.out.1.2 (by omega)⟩,(c3.block _ (by omega) (by omega)).trans HS2.out.2.1,(c3.block _ (by omega) (by omega)).trans HS2.out.2.2⟩
  refine⟨_,rfl,HS3.out,?_⟩;have c13:Chg 0 0 V X3:=cd.trans (c2.trans c3);have hK3:=(c13.block D hDl (by omega)).trans HK.out;obtain⟨fn,tmps,assign,body,hy,hR⟩:=hY wL.heap.size (zO hKK xs) (⟨n % 1000,Nat.mod_lt _ (by omega)⟩,⟨n,hnK⟩) X3 (by omega) (by omega) (hJ _ _ V X3 none hJV (qT c13) (fun r e=>by cases e)) (by rw[Hzl.out];omega);simp only[U7] at hy;rw[Nat.mod_eq_of_lt (show n<1000 by omega)] at hy
  generalize ((TL t).getD n []).map (Value.int .u8)=cs at*;clear hE c2 c3 HS HS2 hMX;go_simp;refine Yo 10 rfl (by kernel_rfl) rfl (by kernel_rfl) (by go_simp) hR ?_;rintro e V3 ⟨⟨m1,m2⟩,hres⟩;have hs3:=m1.size;have f3:=k3.trans m2.1;have HS4:Hid ((fun w':World=>(w'.heap[W.heap.size]?=some (.cells #[.func (.yield l) #[] #[]] 117 (0,0))∧w'.cell? (zd Bt)=some (za t.seq))∧w'.heap[s+1]?=some (.cells #[.int .u32 sm] 121 (0,0))∧w'.heap[s+1+1]?=some (.cells #[za n] 2 (0,0))) V3):=⟨⟨(m1.same _ (Nat.le_refl _) (by omega)).trans HS3.out.1.1,(tri (HBt.out V3 f3)).1.1⟩,(m1.same _ (by omega) (by omega)).trans HS3.out.2.1,(m1.same _ (by omega) (by omega)).trans HS3.out.2.2⟩
  have hKV:V3.heap[D]?=some (.deferred (some [])):=(m2.2.2 _ _ (by omega) hK3 rfl).trans hK3;clear hy hR;rcases hres with⟨rfl,hJ3⟩|⟨rfl,hJ3⟩
  ·refine⟨_,rfl,HS4.out,?_⟩;go_simp;refine Zo (by kernel_rfl) ?_;refine jh.mk ?_;gi_wp2;refine⟨by simp,.inl ⟨_,_,rfl,run_takeDeferred hKV,?_⟩⟩;refine⟨_,results_none rfl _ _ _,⟨_,rfl⟩,.inl ⟨wL.heap.size,_,Hfin.out.trans (congrArg Qn HnT.out.symm),?_⟩⟩;exact(hJ _).putObj _ hJ3 (by omega) hKV rfl
  ·refine⟨_,rfl,HS4.out,?_⟩;go_simp;refine Zo (by kernel_rfl) ?_;refine jh.mk ?_;gi_wp2;refine⟨by simp,.inl ⟨_,_,rfl,run_takeDeferred hKV,?_⟩⟩;refine⟨_,results_none rfl _ _ _,⟨_,rfl⟩,.inr ⟨wL.heap.size,_,by rw[Hfin.out,List.length_append,Hzl.out];rfl,?_⟩⟩;exact(hJx _).putObj _ hJ3 (by omega) hKV rfl
 case stop=>
  rintro D c pre V hD hSp ⟨rfl,hx⟩ hK;gi_wp2;refine⟨by simp,.inl ⟨_,_,rfl,run_takeDeferred hK,?_⟩⟩;have hlp:pre.length≤1000:=by
   have h1: ∀y∈pre.map Fin.val,y<(BL t.seq t.homes t.revs).length:=fun y hy=>by obtain⟨z,_,rfl⟩:=List.mem_map.1 hy;exact z.isLt
   rw[hSp] at h1;rcases Nat.lt_or_ge (BL t.seq t.homes t.revs).length pre.length with h|h
   ·have:=h1 (BL t.seq t.homes t.revs).length (List.mem_range.2 h);omega
   ·omega
  refine⟨_,results_none rfl _ _ _,⟨_,rfl⟩,.inr ⟨wL.heap.size,_,by rw[aas hKK pre hlp hSp,X0],?_⟩⟩;exact(hJx _).putObj _ hx (by omega) hK rfl
attribute [local go_sem] Oper.semAt_some
def Xn {K:Nat} (pre:List (Fin 1000×Fin K)):Int:=(pre.getLast?.map fun z=>(z.1.val:Int)+1).getD 0
theorem Kw {K:Nat}(pre:List (Fin 1000×Fin K))(x:Fin 1000×Fin K):Xn (pre++ [x])=(x.1.val:Int)+1:=by unfold Xn;simp
theorem aaD (n:Nat):Qn (n+1)=Qn n++ [(n,n)]:=by unfold Qn;rw[List.range_succ,List.map_append];rfl
theorem U5 {n:Nat}{p:Nat×Nat}(h:p∈Qn n):p.1=p.2∧p.1<n:=by
 unfold Qn at h;obtain⟨i,hi,rfl⟩:=List.mem_map.1 h;exact⟨rfl,List.mem_range.1 hi⟩
theorem U4 {n i:Nat}(h:i<n):(i,i)∈Qn n:=by unfold Qn;exact List.mem_map.2 ⟨i,List.mem_range.2 h,rfl⟩
theorem Kv {K n:Nat}{zs:List (Fin 1000×Fin K)}(h:ZD zs=Qn n):Xn zs=(n:Int):=by
 have e:Xn zs=((ZD zs).getLast?.map fun z=>(z.1:Int)+1).getD 0:=by
  unfold Xn ZD;rw[List.getLast?_map]
  cases zs.getLast?<;>rfl
 rw[e,h]
 cases n with
 |zero=>rfl
 |succ n=>rw[aaD];simp
structure LnI (w:World)(room:Int)(K:Nat)(pre:List (Fin 1000×Fin K))(V:World):Prop where
 br:V.heap[w.heap.size+1]?=some (.cells #[za room] 2 (0,0))
 rs:V.heap[w.heap.size+1+1]?=some (.cells #[za 0] 2 (0,0))
 ln:V.heap[w.heap.size+3]?=some (.cells #[za (Xn pre)] 2 (0,0))
 no: ∀z∈pre,(z.1.val:Int)≠room
 ch:Chg 0 0 w V
structure LnX (w:World)(room:Int)(K:Nat)(c:Code)(pre:List (Fin 1000×Fin K))(V:World):Prop where
 c:c= .ret
 rs:V.heap[w.heap.size+1+1]?=some (.cells #[za 0] 2 (0,0))
 at': ∃z∈pre,(z.1.val:Int)=room
 ch:Chg 0 0 w V
theorem KS {w:World}{b:Nat}{v:Int}(h:w.heap[b]?=some (.cells #[za v] 2 (0,0))):(loadVar 2 (zd b)).run Tryz.prog w= .ok (za v) w:=by
 have ha:=Boxed.cell h;simp[loadVar,isAgg,underlying,Tryz.underlying2,ha,Result.andThen]
theorem JZ (w:World){lo hi:Nat}{a:Value}{t:Tx}(room:Int)(h0r:0≤room)(hl:Z3 t≤1048576)(hhi:hi≤w.heap.size)(hby: ∀x∈t.homes,Byt x.2)(hM:Mag w)(h1:jI w lo hi a t):
  Calls Tryz.prog 58 #[a,za room] w fun e w'=>e= .returned (za (if((TL t).length:Int)≤room then((TL t).length:Int) else 0))∧Chg 0 0 w w':=by
 obtain⟨hv,rv,rfl,p1,v1⟩:=h1;have hMl:=hM.lt;obtain⟨rz,Hrz⟩: ∃rz:Int,Hid (rz=if((TL t).length:Int)≤room then((TL t).length:Int) else 0):=⟨_,rfl⟩;rw[←Hrz.out];have cA:Chg 0 0 w (((w.alloc (.cells #[za t.seq,hv,rv] 35)).alloc (.cells #[za room] 2)).alloc (.cells #[za 0] 2)):=((Chg.alloc (Chg.refl 0 0 w) _).alloc _).alloc _;obtain⟨z1,z2,z3,z4⟩:=QW w (.cells #[za t.seq,hv,rv] 35) (.cells #[za room] 2) (.cells #[za 0] 2)
 refine(callsIn_wide (n:=0)).1 ?_;refine callsIn_of_wp_marks Tryz.func58 rfl trivial ?_ rfl;simp only[Tryz.ntmps58,List.size_toArray,List.length_cons,List.length_nil,Nat.reduceAdd,Nat.reduceSub,Array.replicate_succ,Array.replicate_zero,List.push_toArray,List.append_toArray,List.nil_append,List.cons_append];gi_wp2;generalize ((w.alloc (.cells #[za t.seq,hv,rv] 35)).alloc (.cells #[za room] 2)).alloc (.cells #[za 0] 2)=wA at*
 obtain⟨y1,y2,y3⟩:=zN wA (.cells #[za 0] 2) (.cells #[za t.seq,hv,rv] 35);have cB:Chg 0 0 wA ((wA.alloc (.cells #[za 0] 2)).alloc (.cells #[za t.seq,hv,rv] 35)):=(Chg.alloc (Chg.refl 0 0 wA) _).alloc _;have sB:(wA.alloc (.cells #[za 0] 2)).heap.size=w.heap.size+4:=by simp[z1]
 refine⟨trivial,rfl,(callsIn_wide.2 (j9 _ _ _ _)).mono ?_⟩;rintro e w1 ⟨rfl,rfl⟩;rw[sB];generalize (wA.alloc (.cells #[za 0] 2)).alloc (.cells #[za t.seq,hv,rv] 35)=wL at*;rw[z1] at y1 y2 y3;have cL:Chg 0 0 w wL:=cA.trans cB;have x2:=(cB.block _ (by omega) (by omega)).trans z3;have x3:=(cB.block _ (by omega) (by omega)).trans z4;have hseq:=Nj (w.heap.size+4) lo hi t hv rv wL hl hby (hM.chg cL (by omega)) y3 (p1.chg cL (by omega)) (v1.chg cL (by omega)) (by omega)
 clear cB z2 z3 z4 z1 cA;gi_wp2;have hI': ∀M:Nat,OwnFrom wL.heap.size (LnI w room (TL t).length):=by
  rintro M pre A C row h hg hr;have hne: ∀k,k<w.heap.size+5→some k≠row:=fun k hk e=>by have:=(hr _ e.symm).1;omega
  exact⟨(hg.block _ (gLt h.br) (hne _ (by omega))).trans h.br,(hg.block _ (gLt h.rs) (hne _ (by omega))).trans h.rs,(hg.block _ (gLt h.ln) (hne _ (by omega))).trans h.ln,h.no,
   ⟨hg.os.trans h.ch.os,hg.tape.trans h.ch.tape,hg.output.trans h.ch.output,Nat.le_trans h.ch.size hg.size,fun k hk ho=>(hg.block k (Nat.lt_of_lt_of_le hk h.ch.size) (hne _ (by omega))).trans (h.ch.block k hk ho)⟩⟩
 refine QD (n:=0) (Kp:=KpT (KA (w.heap.size+4) lo hi) (wL.heap.size+2)) (gf:=59) (lb:= #[.pointer (some (zd (w.heap.size+4)))]) rfl (enters_of Tryz.func59 (by kernel_rfl) rfl)
  hseq (fun h=>h) (Below.refl _ _) (fun _=>rfl) KpT.trans (fun V o _ hb=>KpT.put o hb (fun k hk=>by unfold KA at hk;omega) (by omega))
  (fun _=>LnI w room (TL t).length) (fun _=>LnX w room (TL t).length)
  hI' ?hIx ?hIF ?hIxF ?h0
  (fun x a' V=>a'= {tmps:= #[.agg #[za t.seq,hv,rv],za room,.pointer (some (zd w.heap.size)),.pointer (some (zd (w.heap.size+1))),.pointer (some ⟨w.heap.size+1+1,0,none⟩),.pointer (some (zd (w.heap.size+3))),za (x.1.val:Int),.agg #[za t.seq,hv,rv],.func (.func 59) #[] #[.pointer (some (zd (w.heap.size+4)))],za (x.1.val:Int),.agg (((TL t).getD x.2.val []).map (Value.int .u8)).toArray,undef,undef,undef,undef,undef,undef],defers:= []})
  (fun x a' _ _ _ _ hs _ _=>hs) ?assign ?body ?done ?stop
 case hIx=>
  rintro M c pre A C row h hg hr;have hne: ∀k,k<w.heap.size+5→some k≠row:=fun k hk e=>by have:=(hr _ e.symm).1;omega
  exact⟨h.c,(hg.block _ (gLt h.rs) (hne _ (by omega))).trans h.rs,h.at',
   ⟨hg.os.trans h.ch.os,hg.tape.trans h.ch.tape,hg.output.trans h.ch.output,Nat.le_trans h.ch.size hg.size,fun k hk ho=>(hg.block k (Nat.lt_of_lt_of_le hk h.ch.size) (hne _ (by omega))).trans (h.ch.block k hk ho)⟩⟩
 case hIF=>
  rintro M zs A C h hc hm;exact⟨(hc.block _ (gLt h.br) (by omega)).trans h.br,(hc.block _ (gLt h.rs) (by omega)).trans h.rs,(hc.block _ (gLt h.ln) (by omega)).trans h.ln,h.no,h.ch.step hc (by omega)⟩
 case hIxF=>
  rintro M c zs A C h hc hm;exact⟨h.c,(hc.block _ (gLt h.rs) (by omega)).trans h.rs,h.at',h.ch.step hc (by omega)⟩
 case h0=>
  intro V hV hsz;exact⟨(hV.block _ (by omega)).trans x2,(hV.block _ (by omega)).trans x3,(hV.block _ (by omega)).trans y2,(by simp),cL.step (Chg.ofBelow hV 0 0) (by omega)⟩
 case assign=>
  rintro M l' zs x V K' hM' hMV hi' hK';simp only[U7];generalize (((TL t).getD x.2.val []).map (Value.int .u8)).toArray=cs at*;gi_wp2;exact hK' _ _ (qe.refl _ _ _) (KpT.chg0 (Chg.refl 0 0 V) (fun k hk=>by unfold KA at hk;have:=hi'.ch.size;omega)) hi' rfl
 case body=>
  rintro M l' zs x a' V hM' hMV hi' rfl hlen;have hx1:=x.1.isLt;have HLs:Hid (Xn (zs++ [x])=(x.1.val:Int)+1):=Kw zs x;generalize (((TL t).getD x.2.val []).map (Value.int .u8)).toArray=cs at*;have q1:=Boxed.cell hi'.br;have hwr:IntKind.i64.wrap ((x.1.val:Int)+1)=(x.1.val:Int)+1:=by rw[IntKind.wrap_i64];omega
  have hKl: ∀k,KA (w.heap.size+4) lo hi k→k<V.heap.size∧(k<w.heap.size+2∨w.heap.size+4≤k):=fun k hk=>by unfold KA at hk;have:=hi'.ch.size;omega
  have HFin:Hid (∀p:Addr,(p=⟨w.heap.size+1+1,0,none⟩∨p=(zd (w.heap.size+3)))→ ∀v,(qe wL.heap.size M V (V.setCell p v)∧KpT (KA (w.heap.size+4) lo hi) (wL.heap.size+2) V (V.setCell p v))∧Chg 0 0 w (V.setCell p v)):=by
   intro p hp v;have hpb:w.heap.size+2≤p.block∧p.block<w.heap.size+4:=by rcases hp with rfl|rfl<;>simp
   have cY:Chg (w.heap.size+2) (w.heap.size+4) V (V.setCell p v):=(Chg.refl _ _ V).setCell (Or.inl hpb) v;refine⟨⟨qe.chg cY hMV (by omega),KpT.chg cY hKl (fun k h1 h2=>?_)⟩,hi'.ch.step cY (by omega)⟩;have hk:k=w.heap.size+1+1∨k=w.heap.size+3:=by omega
   rcases hk with rfl|rfl
   ·exact⟨_,_,_,hi'.rs,by unfold tyA;decide⟩
   ·exact⟨_,_,_,hi'.ln,by unfold tyA;decide⟩
  have q2:=Boxed.cell hi'.rs;have q3:=Boxed.frozen hi'.rs;have q4:=Boxed.cell hi'.ln;have q5:=Boxed.frozen hi'.ln;clear y1;by_cases hxr:(x.1.val:Int)=room
  ·have Hxr:Hid ((x.1.val:Int)=room):=hxr;gi_wp2;refine⟨(HFin.out _ (Or.inl rfl) _).1,rfl,Boxed.set _ hi'.rs,⟨x,by simp,Hxr.out⟩,(HFin.out _ (Or.inl rfl) _).2⟩
  ·have Hxr:Hid (¬(x.1.val:Int)=room):=hxr;gi_wp2;refine⟨(HFin.out _ (Or.inr rfl) _).1,?_,?_,?_,?_,(HFin.out _ (Or.inr rfl) _).2⟩
   ·exact(Below.heap_setCell _ _ _ _ (by simp)).trans hi'.br
   ·exact(Below.heap_setCell _ _ _ _ (by simp)).trans hi'.rs
   ·rw[HLs.out];exact Boxed.set _ hi'.ln
   ·intro z hz;rcases List.mem_append.1 hz with hz|hz
    ·exact hi'.no z hz
    ·rw[List.mem_singleton.1 hz];exact Hxr.out
 case done=>
  rintro M D zs V hD hS hi' hK';have hlp:=Kv hS;have hge:((TL t).length:Int)≤room:=by
   rcases Int.lt_or_le room ((TL t).length:Int) with hlt|hle
   ·exfalso;have hm:=U4 (n:=(TL t).length) (i:=room.toNat) (by omega);rw[←hS] at hm;obtain⟨z,hz,e⟩:=List.mem_map.1 hm;have e1:z.1.val=room.toNat:=congrArg Prod.fst e;exact hi'.no z hz (by omega)
   ·exact hle
  have hrz:=Hrz.out;rw[if_pos hge] at hrz;have hln:=hi'.ln;rw[hlp,←hrz] at hln;have Hln:Hid (V.heap[w.heap.size+3]?=some (.cells #[za rz] 2 (0,0))):=hln;have q1:=Boxed.cell hln;have q2:=Boxed.cell hi'.rs;have q3:=Boxed.frozen hi'.rs;have hsV:=hi'.ch.size;clear hge hlp hS hln hrz;gi_wp2;have cY:Chg (w.heap.size+2) (w.heap.size+4) V (V.setCell ⟨w.heap.size+1+1,0,none⟩ (za rz)):=(Chg.refl _ _ V).setCell (Or.inl (by simp)) _
  have hb:=Boxed.set (za rz) hi'.rs;have hDl:=(gLt hK');have hK2:=(cY.block D hDl (by omega)).trans hK';have cw:=hi'.ch.step cY (by omega);generalize V.setCell ⟨w.heap.size+1+1,0,none⟩ (za rz)=Y at*;refine⟨by simp,.inl ⟨_,_,rfl,run_takeDeferred hK2,?_⟩⟩;refine⟨_,zu Tryz.results58 rfl (KS ((World.putObj_heap_other (by omega)).trans hb)),rfl,?_⟩;exact cw.step (l:=D) (r:=D+1) ⟨rfl,rfl,rfl,by simp,fun k _ ho=>World.putObj_heap_other (by omega)⟩ (by omega)
 case stop=>
  rintro M D c zs V hD hSp ⟨rfl,hrs,⟨z,hz,hzr⟩,hch⟩ hK';have hlt: ¬((TL t).length:Int)≤room:=by
   have hm:(z.1.val,z.2.val)∈ZD zs:=List.mem_map.2 ⟨z,hz,rfl⟩;rw[hSp] at hm;have:=(U5 hm).1;have:=z.2.isLt;simp only at*;omega
  have hrz:=Hrz.out;rw[if_neg hlt] at hrz;have Hr0:Hid (rz=0):=hrz;clear hlt hrz;gi_wp2;refine⟨by simp,.inl ⟨_,_,rfl,run_takeDeferred hK',?_⟩⟩;refine⟨_,zu Tryz.results58 rfl (KS ((World.putObj_heap_other (by omega)).trans hrs)),by rw[Hr0.out],?_⟩;exact hch.step (l:=D) (r:=D+1) ⟨rfl,rfl,rfl,by simp,fun k _ ho=>World.putObj_heap_other (by omega)⟩ (by omega)
attribute [local go_sem] Oper.semAt_some
theorem UQ {o:Oper}{a:Act}{w:World}{K:Act→World→Prop}{Q:Exit→Act→World→Prop}(s x:Operand)
  (ho:o.op= .call {callee:= .builtin .append,args:= #[s,x],argTypes:= #[22,22]})
  (base:Nat) (sv:Value) (xs:List Int) (hs:a.eval s=sv) (hO:zi w base 5 sv xs) (hbase:base≤w.heap.size) (lo hi:Nat) (xv:Value) (ys:List Int) (hx:a.eval x=xv) (hv:zr w lo hi .u8 xv ys) (hy:0<ys.length) (hl:xs.length+ys.length≤1048576)
  (h: ∀v' w',zi w' base 5 v' (xs++ys)→w.grownBy w' sv.ownBlock→K (a.put o.dst v') w'):o.wp Tryz.prog a w K Q:=by
 obtain⟨i,hi,hz0,hz1,hz2⟩:=info_parts Tryz.infoU1;obtain⟨ao,cap,rfl,_,_,hcell⟩:=hv;obtain⟨b,off,rfl,hc⟩: ∃b off,ao=some ⟨b,off,none⟩∧ ∀i,i<ys.length→w.cell? ⟨b,off+i,none⟩=some (zb (ys.getD i 0)):=by
  rcases hcell with e|⟨b,off,e,_,_,h3⟩
  ·rw[e] at hy;simp at hy
  ·exact⟨b,off,e,h3⟩
 have HNW: ∀j u,(ys.map (Value.int .u8))[j]?=some u→w.cell? ((⟨b,off,none⟩:Addr).add j)=some u:=by
  intro j u hj;have hjl:j<ys.length:=by have:=(List.getElem?_eq_some_iff.1 hj).1;simpa using this
  rw[Addr.add_mid,hc j hjl,←hj];simp[List.getD_eq_getElem?_getD,hjl]
 have hrow:w.ownsRow base 5 1 sv xs.length (xs.map (Value.int .u8)):=hO;refine wp_append_own _ s x 22 ho base 5 i (zb 0) 1 1 Tryz.underlying22 hi hz0 hz1 hz2 rfl (by decide) sv xs.length (xs.map (Value.int .u8)) hs hrow ⟨b,off,none⟩ ys.length cap (ys.map (Value.int .u8)) hx (by simp) HNW (ints_oneCell _ _) (by unfold maxLen;omega) (by omega) hbase ?_;intro v' w2 hown hgrow _;refine h v' w2 ?_ hgrow
 unfold zi;rw[List.length_append,List.map_append];exact hown
theorem Zx {tl:List (List Int)}(i:Fin tl.length):tl.getD i.val []∈tl:=by
 have h:=i.isLt;rw[show tl.getD i.val []=tl[i.val] by simp[List.getD_eq_getElem?_getD,h]];exact List.getElem_mem h
end Go.Proofs.YtacjklochmelfaaGreatDoor
