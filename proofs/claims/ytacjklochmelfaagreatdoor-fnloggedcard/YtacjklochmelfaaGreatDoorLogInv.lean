import Derived.Test.YtacjklochmelfaaGreatDoorInoValid
import Derived.Test.YtacjklochmelfaaGreatDoorPutByt
import Derived.Test.YtacjklochmelfaaGreatDoorMkMath
import Derived.Test.YtacjklochmelfaaGreatDoorRowZ
import Derived.Test.YtacjklochmelfaaGreatDoorTxnImpl2
import Derived.Test.YtacjklochmelfaaGreatDoorRows
import Derived.Deep.DeepCutAuto
import Derived.Test.YtacjklochmelfaaGreatDoorOkSup
import Derived.Test.YtacjklochmelfaaGreatDoorBitSpec
import Derived.Test.YtacjklochmelfaaGreatDoorImplLay
import Derived.Test.YtacjklochmelfaaGreatDoorLogDisk
import Derived.Test.YtacjklochmelfaaGreatDoorDiskP
namespace Go.Proofs.YtacjklochmelfaaGreatDoor
open Go.RowKit
set_option maxRecDepth 100000
set_option maxHeartbeats 16000000
structure Fits (i:Ino):Prop where
 kind:0≤i.kind∧i.kind<256
 links:0≤i.links∧i.links<256
 size:0≤i.size∧i.size≤2560
 len:i.dir.length=8
 dir: ∀x∈i.dir,0≤x∧x<2048
 ind:0≤i.ind∧i.ind<2048
def Yw:List Int:= [2,1]++List.replicate 62 0
theorem Tryz.infoI64:(Tryz.prog.info? 2).map (fun i=>(i.zero,i.size,i.bytes))=some (some (za 0),1,8):=by kernel_rfl
attribute [local go_sem] Oper.semAt_some
theorem Yy {xs ys:List Int}{o k:Nat}(h:o+ys.length≤xs.length)(hk:xs.length=k):(splice xs o ys).length=k:=by
 unfold splice;simp only[List.length_append,List.length_take,List.length_drop];omega
theorem ZR {w:World}{s:Nat}{a b:Value}{t:TypeId}(h:w.heap[s]?=some (.cells #[a,b] t (0,0))):w.cell? (zd s)=some a∧w.cell? ⟨s,1,none⟩=some b:=by simp[World.cell?,h]
theorem seven {w:World}{s:Nat}{a b c d e f g:Value}{t:TypeId}(h:w.heap[s]?=some (.cells #[a,b,c,d,e,f,g] t (0,0))):
  w.cell? (zd s)=some a∧w.cell? ⟨s,1,none⟩=some b∧w.cell? ⟨s,2,none⟩=some c∧w.cell? ⟨s,3,none⟩=some d∧w.cell? ⟨s,4,none⟩=some e∧w.cell? ⟨s,5,none⟩=some f∧w.cell? ⟨s,6,none⟩=some g:=by simp[World.cell?,h]
theorem acB (it sq st:Int):Byt (jd 106 108 111 103 1 it sq st):=by
 intro x hx;unfold jd at hx;simp only[List.mem_append] at hx;rcases hx with(((hx|hx)|hx)|hx)|hx
 ·simp at hx;omega
 ·exact qh _ _ x hx
 ·exact qh _ _ x hx
 ·exact qh _ _ x hx
 ·rw[List.mem_replicate] at hx;omega
theorem V8:Yw.length=64:=rfl
theorem Kr {n:Nat}(hn:n≤256):(Qy n).length=64:=by
 unfold Qy;have hbp:ZJ (List.replicate 64 0) 0 true=(List.replicate 64 (0:Int)).set (0/8) (jK ((List.replicate 64 0).getD (0/8) 0) (0 % 8) true):=J9 (m:=0) ⟨by simp,by omega,by simp⟩;have hl1:(ZJ (List.replicate 64 0) 0 true).length=64:=by rw[hbp,List.length_set,List.length_replicate]
 have hby:=J8 (xs:=List.replicate 64 0) 0 true (Jp 64);obtain⟨h3,_⟩:=QA (A:=n) hby (by omega) (512-n) (by omega);rw[h3,hl1]
theorem Kb {mb D b:Nat}(hmb:mb≤4)(hD:D≤512*mb)(hb:b≤512*mb):(q9 mb D b).length=64*mb:=by
 unfold q9;obtain⟨h1,h2⟩:=QA (ys:=List.replicate (64*mb) 0) (A:=0) (Jp _) (by rw[List.length_replicate];omega) D (by rw[List.length_replicate];omega);obtain⟨h3,_⟩:=QA (A:=b) h2 (by rw[h1,List.length_replicate];omega) (512*mb-b) (by rw[h1,List.length_replicate];omega);rw[h3,h1,List.length_replicate]
def mkJ (l:Int):List Int:=qJ 106 108 111 103 1 l 1 0
def Ei (b l n im bm mb tb D:Nat):List Int:=
 splice (splice (splice (splice (splice (List.replicate (b*64) 0) (0*64) (fsL b l n)) (1*64) (mkJ l)) (im*64) (Qy n)) (bm*64) (q9 mb D b)) (tb*64) Yw
theorem N6 {l:Int}(h0:0≤l)(h1:l≤512):(mkJ l).length=64:=by
 have hi2:=pn2 (v:=l) (by omega) (by omega);have hq4:=pn4 (v:=1) (by omega) (by omega);have ht2:=pn2 (v:=0) (by omega) (by omega);obtain⟨hc0,hc1⟩:=qp (jd 106 108 111 103 1 l 1 0);unfold mkJ qJ;rw[List.length_append,j6 hi2 hq4 ht2,pn4 hc0 hc1]
structure Ms (w x:World)(PB gD DB N cp b l n im bm mb tb tn D:Nat)(dn:Int)(cur:List Int):Prop where
 g0:x.heap[w.heap.size]?=some (.cells #[za b,za l,za n] 57 (0,0))
 r0:x.heap[w.heap.size+1]?=some (.cells #[zc,zc] 26 (0,0))
 pb:x.heap[PB]?=some (.cells #[za im,za bm,za mb,za tb,za tn,za D,za dn] 92 (0,0))
 db:x.heap[DB]?=some (.cells #[.slice (some (zd gD)) N cp,zc] 26 (0,0))
 dr:zi x (w.heap.size+2) 5 (.slice (some (zd gD)) N cp) cur
 lo:w.heap.size+1<PB∧PB<gD∧gD<DB
 ch:Chg 0 0 w x
theorem Ms.lt {w x:World}{PB gD DB N cp b l n im bm mb tb tn D:Nat}{dn:Int}{cur:List Int}(h:Ms w x PB gD DB N cp b l n im bm mb tb tn D dn cur):DB<x.heap.size:=(gLt h.db)
theorem Ms.chg {w x:World}{PB gD DB N cp b l n im bm mb tb tn D:Nat}{dn:Int}{cur:List Int}{y:World}(h:Ms w x PB gD DB N cp b l n im bm mb tb tn D dn cur)(c:Chg 0 0 x y):Ms w y PB gD DB N cp b l n im bm mb tb tn D dn cur:=
 have h1:=h.lt
 have h2:=h.lo
 ⟨(c.block _ (by omega) (by omega)).trans h.g0,(c.block _ (by omega) (by omega)).trans h.r0,(c.block _ (by omega) (by omega)).trans h.pb,(c.block _ (by omega) (by omega)).trans h.db,h.dr.chg c (by intro g _;omega),h.lo,h.ch.trans c⟩
theorem Ms.put {w x:World}{PB gD DB N cp b l n im bm mb tb tn D:Nat}{dn:Int}{cur:List Int}{y:World}{cur':List Int}(h:Ms w x PB gD DB N cp b l n im bm mb tb tn D dn cur)(c:Chg gD (gD+1) x y)(hb:zi y (w.heap.size+2) 5 (.slice (some (zd gD)) N cp) cur'):Ms w y PB gD DB N cp b l n im bm mb tb tn D dn cur':=
 have h1:=h.lt
 have h2:=h.lo
 ⟨(c.block _ (by omega) (by omega)).trans h.g0,(c.block _ (by omega) (by omega)).trans h.r0,(c.block _ (by omega) (by omega)).trans h.pb,(c.block _ (by omega) (by omega)).trans h.db,hb,h.lo,h.ch.step c (by omega)⟩
theorem Ms.l1Put {w x:World}{PB gD DB N cp b l n im bm mb tb tn D:Nat}{dn:Int}{cur:List Int}(h:Ms w x PB gD DB N cp b l n im bm mb tb tn D dn cur)(hN:cur.length=N)(hN2:N≤1048576)(ys:List Int)(hy:ys.length=64)(q:Nat)(hq:q*64+64≤N){v:Value}(hv:zi x (DB+1) 5 v ys):
  Calls Tryz.prog 41 #[.slice (some (zd gD)) N cp,za q,v] x fun e y=>e= .returned (.tuple #[])∧Ms w y PB gD DB N cp b l n im bm mb tb tn D dn (splice cur (q*64) ys)∧(splice cur (q*64) ys).length=N∧Chg gD (gD+1) x y:=by
 subst hN;have h2:=h.lo;refine(Ef x cur ys q h.dr (hv.view (by omega) (hi:=x.heap.size) (fun g hg=>(hv.lt g hg).2)) hy hq hN2 (Or.inl (by omega))).mono ?_;rintro e y ⟨rfl,ho,hc⟩;exact⟨rfl,h.put hc ho,Yy (by omega) rfl,hc⟩
theorem Vi (w:World){lo hi g cap k:Nat}{ys:List Int}(h:zr w lo hi .u8 (.slice (some (zd g)) ys.length cap) ys)(hk:64*k+64≤ys.length)(hl:ys.length≤1048576):
  Calls Tryz.prog 46 #[.slice (some (zd g)) ys.length cap,za k] w fun e w'=> ∃v,e= .returned v∧zi w' w.heap.size 5 v (JA ys k)∧Chg 0 0 w w':=by
 obtain⟨hc0,hc1⟩:ys.length≤cap∧cap≤cap:=by
  obtain⟨ao,c',e,_,hc,_⟩:=h;simp only[Value.slice.injEq] at e;obtain⟨_,_,rfl⟩:=e;exact⟨hc.1,Nat.le_refl _⟩
 have HVk:Hid (zr w lo hi .u8 (.slice (some ⟨g,0+64*k,none⟩) 64 (cap-64*k)) (JA ys k)):=zr.part h hk (by omega) (cap-64*k) (by omega);obtain⟨m,hm⟩: ∃m:Nat,m=64*k:=⟨_,rfl⟩;have Hm:Hid (m=64*k):=hm;rw[←hm,Nat.zero_add] at HVk;rw[←hm] at hk;have hN:=ZM w (by unfold JA;rw[List.length_take];omega) HVk.out;have e1:(k:Int)*64=(m:Int):=by omega
 have e2:((k:Int)+1)*64=(m:Int)+64:=by omega
 have e3:IntKind.i64.wrap ((k:Int)+1)=(k:Int)+1:=by rw[IntKind.wrap_i64];omega
 have e4:IntKind.i64.wrap (m:Int)=(m:Int):=by rw[IntKind.wrap_i64];omega
 have e5:IntKind.i64.wrap ((m:Int)+64)=(m:Int)+64:=by rw[IntKind.wrap_i64];omega
 have q1:(0:Int)≤(m:Int)+64:=by omega
 have q2:(m:Int)+64≤(cap:Int):=by omega
 have q3: ¬cap=m:=by omega
 have q4:(m:Int)≤max ((m:Int)+64) 0:=by omega
 have q5:((m:Int)+64).toNat-m=64:=by omega
 generalize JA ys k=zs at*;generalize ys.length=L at*;clear hm h hc1;go_enter Tryz.func46,Tryz.ntmps46;go_wp2_with fail;refine hN.mono ?_;rintro e w1 ⟨v,rfl,ho,hc⟩;have HO:Hid (zi w1 w.heap.size 5 v zs):=ho;clear ho;go_wp2;go_ret;exact⟨_,rfl,HO.out,hc⟩
attribute [local go_sem] Oper.semAt_some
theorem KZ {c xs ys:List Int}{o:Nat}(h:o+xs.length+ys.length≤c.length):splice (splice c o xs) (o+xs.length) ys=splice c o (xs++ys):=by
 have e0:(c.take o).length=o:=by rw[List.length_take];omega
 have e1:(c.take o++xs).length=o+xs.length:=by rw[List.length_append,e0]
 have A:(c.take o++(xs++c.drop (o+xs.length))).take (o+xs.length)=c.take o++xs:=by
  rw[←List.append_assoc,List.take_append_of_le_length (by rw[e1];exact Nat.le_refl _),List.take_of_length_le (by rw[e1];exact Nat.le_refl _)]
 have B:(c.take o++(xs++c.drop (o+xs.length))).drop (o+xs.length+ys.length)=c.drop (o+xs.length+ys.length):=by
  rw[←List.append_assoc,List.drop_append,List.drop_eq_nil_of_le (by rw[e1];omega),List.nil_append,e1,List.drop_drop];congr 1;omega
 unfold splice;simp only[List.append_assoc] at A B⊢;rw[A,B,List.length_append,List.append_assoc,show o+(xs.length+ys.length)=o+xs.length+ys.length by omega]
theorem abF {c ys:List Int}{q k K:Nat}(hy:ys.length=64*K)(hk:k<K)(h:q*64+64*K≤c.length):splice (splice c (q*64) (ys.take (64*k))) ((q+k)*64) (JA ys k)=splice c (q*64) (ys.take (64*(k+1))):=by
 have e:q*64+(ys.take (64*k)).length=(q+k)*64:=by rw[List.length_take];omega
 rw[←e,KZ (by rw[List.length_take,Xa hy hk];omega)];congr 1;unfold JA;rw[show 64*(k+1)=64*k+64 by omega,List.take_add]
theorem EA (c ys:List Int)(o:Nat):splice c o (ys.take (64*0))=c:=by
 unfold splice;simp
abbrev aag:Ino:=⟨2,1,0,List.replicate 8 0,0⟩
theorem aa6:ZW aag++List.replicate 32 0=Yw:=by decide
theorem V7:(ZW aag).length=32:=by decide
theorem Ez (w:World)(b l n im bm mb tb tn D:Nat)(dn:Int)(hg:Z4 b l n)(hv:Jt b l n=true)(hpl:Xr b l n=plV im bm mb tb tn D dn)
  (q1:im=2+l) (q2:bm=im+1) (q3:tb=bm+mb) (q4:tb<D) (q5:D<b) (q6:0<mb) (q7:mb≤4) (q8:b≤512*mb):
  Calls Tryz.prog 20 #[Uv b l n] w fun e w'=> ∃v,e= .returned v∧qK w' w.heap.size w'.heap.size 84 5 v ⟨Ei b l n im bm mb tb D,[]⟩∧Chg 0 0 w w':=by
 obtain⟨g1,g2,g3,g4,g5,g6⟩:=id hg;have HG:Hid (Z4 b l n):=hg;have HQ:Hid (im=2+l∧bm=im+1∧tb=bm+mb∧tb<D∧D<b∧0<mb∧mb≤4∧b≤512*mb):=⟨q1,q2,q3,q4,q5,q6,q7,q8⟩;have hbn:b≤2048:=by omega
 have hln:l≤512:=by omega
 have hnn:n≤256:=by omega
 have hn1:1≤n:=by omega
 have hb1:1≤b:=by omega
 have hmx:Tryz.prog.follows .mixedOrders=true:=by kernel_rfl
 have hA:Chg 0 0 w ((w.alloc (.cells #[za b,za l,za n] 57)).alloc (.cells #[zc,zc] 26)):=(Chg.alloc (Chg.refl 0 0 w) _).alloc _;obtain⟨z,b0,b1⟩:=zN w (.cells #[za b,za l,za n] 57) (.cells #[zc,zc] 26);have hN:=jf ((w.alloc (.cells #[za b,za l,za n] 57)).alloc (.cells #[zc,zc] 26)) b l n;have HE:Hid (Qv b l n=fsL b l n):=by show _=_;unfold Qv;rw[if_pos hv]
 rw[hv] at hN;have hP:=fun W=>Ja W b l n hbn hln hnn;rw[hpl] at hP;clear hg hv hpl q1 q2 q3 q4 q5 q6 q7 q8;go_enter Tryz.func20,Tryz.ntmps20;go_wp2_with fail;generalize (w.alloc (.cells #[za b,za l,za n] 57)).alloc (.cells #[zc,zc] 26)=w0 at*;refine hN.mono ?_;rintro e w1 ⟨rfl,h1⟩;have B0:=(h1.block w.heap.size (by omega) (by omega)).trans b0;have B1:=(h1.block (w.heap.size+1) (by omega) (by omega)).trans b1
 have HA1:Hid (Chg 0 0 w w1):=hA.trans h1;have s1:=h1.size;clear h1 b0 b1 hA hN;obtain⟨k0,k1,k2⟩:=EG B0;go_wp2_with fail;refine(hP w1).mono ?_;rintro e w2 ⟨rfl,h2⟩;have B0':=(h2.block w.heap.size (by omega) (by omega)).trans B0;have B1':=(h2.block (w.heap.size+1) (by omega) (by omega)).trans B1;have HA2:Hid (Chg 0 0 w w2):=HA1.out.trans h2;have s2:=h2.size;clear h2 B0 B1 HA1 k0 k1 k2 hP;have hB2:(w2.alloc (.cells #[za im,za bm,za mb,za tb,za tn,za D,za dn] 92)).heap[w2.heap.size]?=some (.cells #[za im,za bm,za mb,za tb,za tn,za D,za dn] 92 (0,0)):=zh w2 _
 have B0'':=((Chg.alloc (Chg.refl 0 0 w2) (.cells #[za im,za bm,za mb,za tb,za tn,za D,za dn] 92)).block w.heap.size (by omega) (by omega)).trans B0';have B1'':=((Chg.alloc (Chg.refl 0 0 w2) (.cells #[za im,za bm,za mb,za tb,za tn,za D,za dn] 92)).block (w.heap.size+1) (by omega) (by omega)).trans B1';obtain⟨k0,k1,k2⟩:=EG B0'';have s3:(w2.alloc (.cells #[za im,za bm,za mb,za tb,za tn,za D,za dn] 92)).heap.size=w2.heap.size+1:=by simp
 have HA3:Hid (Chg 0 0 w (w2.alloc (.cells #[za im,za bm,za mb,za tb,za tn,za D,za dn] 92))):=HA2.out.alloc _;clear B0' B1' HA2;go_wp2_with fail;generalize w2.alloc (.cells #[za im,za bm,za mb,za tb,za tn,za D,za dn] 92)=w3 at*;refine(YT w3 b hb1 hbn).mono ?_;rintro e w4 ⟨dv,rfl,o4,h4⟩;obtain⟨gD,cp,rfl⟩:=o4.slice_of (by rw[List.length_replicate];omega);rw[List.length_replicate] at o4;rw[List.length_replicate]
 obtain⟨N,hN⟩: ∃N,N=b*64:=⟨_,rfl⟩;rw[←hN];rw[←hN] at o4;have HN:Hid (N=b*64):=hN;have hNb:N≤1048576:=by omega
 have gD4:=o4.lt gD rfl;have s4:=h4.size;have HK6:Hid (Ms w (w4.alloc (.cells #[.slice (some (zd gD)) N cp,zc] 26)) w2.heap.size gD w4.heap.size N cp b l n im bm mb tb tn D dn (List.replicate N (0:Int))):=by
  have c5:Chg 0 0 w3 (w4.alloc (.cells #[.slice (some (zd gD)) N cp,zc] 26)):=h4.alloc _;refine⟨(c5.block _ (by omega) (by omega)).trans B0'',(c5.block _ (by omega) (by omega)).trans B1'',(c5.block _ (by omega) (by omega)).trans hB2,zh w4 _,(o4.chg (Chg.alloc (Chg.refl 0 0 w4) _) (by intro g _;omega)).base (fun g hg=>by cases hg;show w.heap.size+2≤gD;omega),⟨by omega,by omega,by omega⟩,HA3.out.trans c5⟩
 clear HA3 B0'' B1'' hB2 k0 k1 k2 h4 o4 hN gD4 s4;go_upto_region 6 with fail;generalize w4.alloc (.cells #[.slice (some (zd gD)) N cp,zc] 26)=W6 at*;clear s3 s2 s1 z;clear w3;generalize w4.heap.size=DB at*;generalize w2.heap.size=PB at*;clear w4 w2 w1 w0;have HL6:Hid ((List.replicate N (0:Int)).length=N):=List.length_replicate;obtain⟨D6,hD6⟩: ∃d,d=List.replicate N (0:Int):=⟨_,rfl⟩;rw[←hD6] at HK6 HL6
 have HD6:Hid (D6=List.replicate N (0:Int)):=hD6;clear hD6;have HK6d:Hid (Ms w W6.drew PB gD DB N cp b l n im bm mb tb tn D dn D6):=HK6.out.chg (Chg.drew (Chg.refl 0 0 W6));clear HK6;refine zp (fun w':World=>w'.heap[DB]?=some (.cells #[.slice (some (zd gD)) N cp,zc] 26 (0,0))∧w'.heap[w.heap.size]?=some (.cells #[za b,za l,za n] 57 (0,0))∧w'.heap[PB]?=some (.cells #[za im,za bm,za mb,za tb,za tn,za D,za dn] 92 (0,0))) hmx ?_
 generalize W6.drew=X6 at*;have HS:Hid ((fun w':World=>w'.heap[DB]?=some (.cells #[.slice (some (zd gD)) N cp,zc] 26 (0,0))∧w'.heap[w.heap.size]?=some (.cells #[za b,za l,za n] 57 (0,0))∧w'.heap[PB]?=some (.cells #[za im,za bm,za mb,za tb,za tn,za D,za dn] 92 (0,0))) X6):=⟨HK6d.out.db,HK6d.out.g0,HK6d.out.pb⟩;refine hTk 0 (.pointer (some (zd DB))) rfl (fun w' hw'=>by go_simp) HS.out ?_;go_simp;refine hTk 1 (.slice (some (zd gD)) N cp) rfl (fun w' hw'=>by obtain⟨h4,h5⟩:=ZR hw'.1;go_simp) HS.out ?_
 go_simp;refine hTk 2 (.agg #[za b,za l,za n]) rfl (fun w' hw'=>by obtain⟨h4,h5,h6⟩:=EG hw'.2.1;go_simp) HS.out ?_;go_simp;refine zg 3 rfl rfl (by kernel_rfl) ?_;refine zl 42 #[Uv b l n] (by first|kernel_rfl|go_simp) ((show Calls _ _ _ _ _ from by have h:=J4 X6 b l n;rw[HE.out] at h;exact h)) ?_;rintro e Y6 ⟨v,rfl,hO,hc⟩;have HK6y:Hid (Ms w Y6 PB gD DB N cp b l n im bm mb tb tn D dn D6):=HK6d.out.chg hc
 have HS:Hid ((fun w':World=>w'.heap[DB]?=some (.cells #[.slice (some (zd gD)) N cp,zc] 26 (0,0))∧w'.heap[w.heap.size]?=some (.cells #[za b,za l,za n] 57 (0,0))∧w'.heap[PB]?=some (.cells #[za im,za bm,za mb,za tb,za tn,za D,za dn] 92 (0,0))) Y6):=⟨HK6y.out.db,HK6y.out.g0,HK6y.out.pb⟩;have HO:Hid (zi Y6 (DB+1) 5 v (fsL b l n)):=hO.base (fun g hg=>by have:=(hO.lt g hg).1;have:=HK6d.out.lt;omega);clear HK6d hc hO
 refine⟨_,rfl,HS.out,?_⟩;go_simp;refine zg 4 rfl rfl (by kernel_rfl) ?_;refine zl 41 #[.slice (some (zd gD)) N cp,za (0),v] (by first|kernel_rfl|go_simp) (HK6y.out.l1Put HL6.out hNb (fsL b l n) (N3 HG.out) (0) (by have:=HQ.out;have:=HN.out;omega) HO.out) ?_;rintro e W7 ⟨rfl,hK,hL,hc⟩;have HK7:Hid (Ms w W7 PB gD DB N cp b l n im bm mb tb tn D dn (splice D6 ((0)*64) (fsL b l n))):=hK;have HL7:Hid ((splice D6 ((0)*64) (fsL b l n)).length=N):=hL
 have HS':Hid ((fun w':World=>w'.heap[DB]?=some (.cells #[.slice (some (zd gD)) N cp,zc] 26 (0,0))∧w'.heap[w.heap.size]?=some (.cells #[za b,za l,za n] 57 (0,0))∧w'.heap[PB]?=some (.cells #[za im,za bm,za mb,za tb,za tn,za D,za dn] 92 (0,0))) W7):=⟨HK7.out.db,HK7.out.g0,HK7.out.pb⟩;clear hK hL hc HS HK6y HL6 HO;refine⟨_,rfl,HS'.out,?_⟩;clear HS';obtain⟨D7,hD7⟩: ∃d,d=splice D6 ((0)*64) (fsL b l n):=⟨_,rfl⟩
 rw[←hD7] at HK7 HL7;have HD7:Hid (D7=splice D6 ((0)*64) (fsL b l n)):=hD7;clear hD7;refine zt (by kernel_rfl) (NoPanic.normal ?_);go_upto_region 7 with fail;have HK7d:Hid (Ms w W7.drew PB gD DB N cp b l n im bm mb tb tn D dn D7):=HK7.out.chg (Chg.drew (Chg.refl 0 0 W7));clear HK7;refine zp (fun w':World=>w'.heap[DB]?=some (.cells #[.slice (some (zd gD)) N cp,zc] 26 (0,0))∧w'.heap[w.heap.size]?=some (.cells #[za b,za l,za n] 57 (0,0))∧w'.heap[PB]?=some (.cells #[za im,za bm,za mb,za tb,za tn,za D,za dn] 92 (0,0))) hmx ?_
 generalize W7.drew=X7 at*;have HS:Hid ((fun w':World=>w'.heap[DB]?=some (.cells #[.slice (some (zd gD)) N cp,zc] 26 (0,0))∧w'.heap[w.heap.size]?=some (.cells #[za b,za l,za n] 57 (0,0))∧w'.heap[PB]?=some (.cells #[za im,za bm,za mb,za tb,za tn,za D,za dn] 92 (0,0))) X7):=⟨HK7d.out.db,HK7d.out.g0,HK7d.out.pb⟩;refine hTk 0 (.pointer (some (zd DB))) rfl (fun w' hw'=>by go_simp) HS.out ?_;go_simp;refine hTk 1 (.slice (some (zd gD)) N cp) rfl (fun w' hw'=>by obtain⟨h4,h5⟩:=ZR hw'.1;go_simp) HS.out ?_
 go_simp;refine hTk 2 (.pointer (some ⟨w.heap.size,1,none⟩)) rfl (fun w' hw'=>by go_simp) HS.out ?_;go_simp;refine hTk 3 (za l) rfl (fun w' hw'=>by obtain⟨h4,h5,h6⟩:=EG hw'.2.1;go_simp) HS.out ?_;go_simp;refine hTk 4 (.agg #[za l,za 0,za 1]) rfl (fun w' hw'=>by go_simp) HS.out ?_;go_simp;refine zg 5 rfl rfl (by kernel_rfl) ?_;refine zl 43 #[.agg #[za l,za 0,za 1]] (by first|kernel_rfl|go_simp) (VB X7 l 0 1 ⟨by omega,by omega,by omega,by omega,by omega,by omega⟩ (acB _ _ _)) ?_
 rintro e Y7 ⟨v,rfl,hO,hc⟩;have HK7y:Hid _:=HK7d.out.chg hc;have HS:Hid (_∧_∧_):=⟨HK7y.out.db,HK7y.out.g0,HK7y.out.pb⟩;have HO:Hid (zi Y7 (DB+1) 5 v (mkJ l)):=hO.base (fun g hg=>by have:=(hO.lt g hg).1;have:=HK7d.out.lt;omega);clear HK7d hc hO;refine⟨_,rfl,HS.out,?_⟩;go_simp;refine zg 6 rfl rfl (by kernel_rfl) ?_;refine zl 41 #[.slice (some (zd gD)) N cp,za (1),v] (by first|kernel_rfl|go_simp) (HK7y.out.l1Put HL7.out hNb (mkJ l) (N6 (by omega) (by omega)) (1) (by have:=HQ.out;have:=HN.out;omega) HO.out) ?_
 rintro e W8 ⟨rfl,hK,hL,hc⟩;have HK8:Hid _:=hK;have HL8:Hid _:=hL;have HS':Hid (_∧_∧_):=⟨HK8.out.db,HK8.out.g0,HK8.out.pb⟩;clear hK hL hc HS HK7y HL7 HO;refine⟨_,rfl,HS'.out,?_⟩;clear HS';obtain⟨D8,hD8⟩: ∃d,d=splice D7 ((1)*64) (mkJ l):=⟨_,rfl⟩;rw[←hD8] at HK8 HL8;have HD8:Hid _:=hD8;clear hD8;refine zt (by kernel_rfl) (NoPanic.normal ?_);go_wp2_with fail;refine(qM W8 64 (by omega)).mono ?_;rintro e W9 ⟨gM,rfl,hO,hc⟩
 have HK9:Hid _:=HK8.out.chg hc;have HO:Hid (zi W9 (DB+1) 5 (.slice (some (zd gM)) 64 64) (qL n 0)):=hO.base (fun g hg=>by have:=(hO.lt g hg).1;have:=HK8.out.lt;omega);clear HK8 hO hc;go_wp2;go_loopw [6,7] (fun x y wr=> ∃(k:Nat),y=za k∧k≤512∧zi wr (DB+1) 5 x (qL n k)∧Ms w wr PB gD DB N cp b l n im bm mb tb tn D dn D8) (fun _ y _=>512-(intOf y).toNat)
 case atStart=>exact⟨0,rfl,by omega,HO.out,HK9.out⟩
 case round=>
  clear HO HK9;obtain⟨k,rfl,hk,ho,hm⟩:=hrel;obtain⟨f1,f2⟩:=JD n k hk;obtain⟨k0,k1,k2⟩:=EG hm.g0;have HK:Hid _:=hm;have HOk:Hid _:=ho;have hP:=Qr wr (k:Int) true f2 (by omega) (ho.view (by omega) (hi:=wr.heap.size) (fun g hg=>(ho.lt g hg).2));have HF1:Hid _:=f1;clear f1 f2;by_cases hlt:k<512
  ·have hlt':(k:Int)<512:=by omega
   by_cases hc:k=0∨n≤k
   ·have Hn:Hid (ZJ (qL n k) (k:Int) true=qL n (k+1)):=by show _=_;rw[qL,if_pos hc]
    rw[Hn.out] at hP;clear ho hm Hn HOk HF1;have key: ∀(e:Ending) (w2:World),(∃v,e= .returned v∧zi w2 wr.heap.size 5 v (qL n (k+1))∧Chg 0 0 wr w2)→ ∃v,e= .returned v∧Hid (zi w2 (DB+1) 5 v (qL n (k+1)))∧Hid (Ms w w2 PB gD DB N cp b l n im bm mb tb tn D dn D8):=by
     rintro e w2 ⟨v2,rfl,o2,c2⟩;exact⟨v2,rfl,o2.base (fun g hg=>by have:=(o2.lt g hg).1;have:=HK.out.lt;omega),HK.out.chg c2⟩
    by_cases h0:k=0
    ·have h0':(k:Int)=0:=by omega
     subst h0;go_wp2_with fail;refine hP.mono ?_;intro e w2 h2;obtain⟨v2,rfl,HO2,HK2⟩:=key e w2 h2;clear h2 key hP HK k0 k1 k2;go_wp2;go_roundw
     case rel=>exact⟨1,by rfl,by omega,HO2.out,HK2.out⟩
     case measure=>simp[intOf]
    ·have h0': ¬(k:Int)=0:=by omega
     have h1':(n:Int)≤(k:Int):=by omega
     go_wp2_with fail;refine hP.mono ?_;intro e w2 h2;obtain⟨v2,rfl,HO2,HK2⟩:=key e w2 h2;clear h2 key hP HK k0 k1 k2;go_wp2;go_roundw
     case rel=>exact⟨k+1,by go_num,by omega,HO2.out,HK2.out⟩
     case measure=>simp[intOf];omega
   ·have Hn:Hid (qL n (k+1)=qL n k):=by show _=_;rw[qL,if_neg hc]
    have h0: ¬k=0:=by omega
    have h0': ¬(k:Int)=0:=by omega
    have h1': ¬(n:Int)≤(k:Int):=by omega
    clear ho hm hP HF1;go_wp2;go_roundw
    case rel=>exact⟨k+1,by go_num,by omega,by rw[Hn.out];exact HOk.out,HK.out⟩
    case measure=>simp[intOf];omega
  ·have hlt': ¬(k:Int)<512:=by omega
   have HO8:Hid (zi wr (DB+1) 5 u6 (Qy n)):=by show zi _ _ _ _ _;rw[←Ed hn1 (by omega),show 512=k by omega];exact ho
   obtain⟨j0,j1⟩:=ZR hm.db;obtain⟨p0,p1,p2,p3,p4,p5,p6⟩:=seven hm.pb;have hPut:=HK.out.l1Put HL8.out hNb (Qy n) (Kr hnn) im (by have:=HQ.out;have:=HN.out;omega) HO8.out;clear ho hm hP HF1 HOk;go_wp2_with fail;refine hPut.mono ?_;rintro e W14 ⟨rfl,hK,hL,hc⟩;have HK14:Hid _:=hK;have HL14:Hid _:=hL;clear hK hL hc hPut HK HO8 HL8 j0 j1 p0 p1 p2 p3 p4 p5 p6 k0 k1 k2;obtain⟨D14,hD14⟩: ∃d,d=splice D8 ((im)*64) (Qy n):=⟨_,rfl⟩
   rw[←hD14] at HK14 HL14;have HD14:Hid _:=hD14;clear hD14;obtain⟨M,hM⟩: ∃M:Nat,M=64*mb:=⟨_,rfl⟩;obtain⟨T,hT⟩: ∃T:Nat,T=512*mb:=⟨_,rfl⟩;obtain⟨E,hE⟩: ∃E:Nat,E=8*mb:=⟨_,rfl⟩;have HM:Hid (_∧_∧_):=⟨hM,hT,hE⟩;have hMb:M≤256:=by have:=HQ.out;omega
   have hTb:T≤2048:=by have:=HQ.out;omega
   have x1:(mb:Int)*64=(M:Int):=by omega
   have x2:IntKind.i64.wrap (M:Int)=(M:Int):=by rw[IntKind.wrap_i64];omega
   have x3:(8:Int)*(mb:Int)=(E:Int):=by omega
   have x4:IntKind.i64.wrap (E:Int)=(E:Int):=by rw[IntKind.wrap_i64];omega
   have x5:(E:Int)*64=(T:Int):=by omega
   have x6:IntKind.i64.wrap (T:Int)=(T:Int):=by rw[IntKind.wrap_i64];omega
   clear hM hT hE;obtain⟨p0,p1,p2,p3,p4,p5,p6⟩:=seven HK14.out.pb;have hZ:=qM W14 M (by omega);go_wp2_with fail;refine hZ.mono ?_;rintro e W16 ⟨gM2,rfl,hO,hc⟩;have HK16:Hid _:=HK14.out.chg hc;have HO:Hid (zi W16 (DB+1) 5 (.slice (some (zd gM2)) M M) (ql M D b 0)):=hO.base (fun g hg=>by have:=(hO.lt g hg).1;have:=HK14.out.lt;omega);clear HK14 hO hc hZ p0 p1 p2 p3 p4 p5 p6;go_wp2;go_loopw [8,9] (fun x y wr=> ∃(k:Nat),y=za k∧k≤T∧zi wr (DB+1) 5 x (ql M D b k)∧Ms w wr PB gD DB N cp b l n im bm mb tb tn D dn D14) (fun _ y _=>T-(intOf y).toNat)
   case atStart=>exact⟨0,rfl,by omega,HO.out,HK16.out⟩
   case round=>
    clear HO HK16;obtain⟨k,rfl,hk,ho,hm⟩:=hrel;obtain⟨f1,f2⟩:=JB M D b (by omega) k (by have:=HM.out;omega);obtain⟨k0,k1,k2⟩:=EG hm.g0;obtain⟨p0,p1,p2,p3,p4,p5,p6⟩:=seven hm.pb;have HK:Hid _:=hm;have HOk:Hid _:=ho;have hP:=Qr wr (k:Int) true f2 (by omega) (ho.view (by omega) (hi:=wr.heap.size) (fun g hg=>(ho.lt g hg).2));have HF1:Hid _:=f1;clear f1 f2;by_cases hlt:k<T
    ·have hlt':(k:Int)<(T:Int):=by omega
     by_cases hc:k<D∨b≤k
     ·have Hn:Hid (ZJ (ql M D b k) (k:Int) true=ql M D b (k+1)):=by show _=_;rw[ql,if_pos hc]
      rw[Hn.out] at hP;clear ho hm Hn HOk HF1;have key: ∀(e:Ending) (w2:World),(∃v,e= .returned v∧zi w2 wr.heap.size 5 v (ql M D b (k+1))∧Chg 0 0 wr w2)→ ∃v,e= .returned v∧Hid (zi w2 (DB+1) 5 v (ql M D b (k+1)))∧Hid (Ms w w2 PB gD DB N cp b l n im bm mb tb tn D dn D14):=by
       rintro e w2 ⟨v2,rfl,o2,c2⟩;exact⟨v2,rfl,o2.base (fun g hg=>by have:=(o2.lt g hg).1;have:=HK.out.lt;omega),HK.out.chg c2⟩
      by_cases h0:k<D
      ·have h0':(k:Int)<(D:Int):=by omega
       go_wp2_with fail;refine hP.mono ?_;intro e w2 h2;obtain⟨v2,rfl,HO2,HK2⟩:=key e w2 h2;clear h2 key hP HK k0 k1 k2 p0 p1 p2 p3 p4 p5 p6;go_wp2;go_roundw
       case rel=>exact⟨k+1,by go_num,by omega,HO2.out,HK2.out⟩
       case measure=>simp[intOf];omega
      ·have h0': ¬(k:Int)<(D:Int):=by omega
       have h1':(b:Int)≤(k:Int):=by omega
       go_wp2_with fail;refine hP.mono ?_;intro e w2 h2;obtain⟨v2,rfl,HO2,HK2⟩:=key e w2 h2;clear h2 key hP HK k0 k1 k2 p0 p1 p2 p3 p4 p5 p6;go_wp2;go_roundw
       case rel=>exact⟨k+1,by go_num,by omega,HO2.out,HK2.out⟩
       case measure=>simp[intOf];omega
     ·have Hn:Hid (ql M D b (k+1)=ql M D b k):=by show _=_;rw[ql,if_neg hc]
      have h0': ¬(k:Int)<(D:Int):=by omega
      have h1': ¬(b:Int)≤(k:Int):=by omega
      clear ho hm hP HF1;go_wp2;go_roundw
      case rel=>exact⟨k+1,by go_num,by omega,by rw[Hn.out];exact HOk.out,HK.out⟩
      case measure=>simp[intOf];omega
    ·have hlt': ¬(k:Int)<(T:Int):=by omega
     have HO20:Hid (zi wr (DB+1) 5 u8 (q9 mb D b)):=by
      show zi _ _ _ _ _;rw[←UW (by have:=HQ.out;omega) HQ.out.2.2.2.2.2.2.2,←HM.out.1,←HM.out.2.1,show T=k by omega];exact ho
     clear ho hm hP HF1 HOk;have HBL:Hid ((q9 mb D b).length=M):=by show _=_;rw[HM.out.1];exact Kb HQ.out.2.2.2.2.2.2.1 (by have:=HQ.out;omega) HQ.out.2.2.2.2.2.2.2
     obtain⟨gB,cB,rfl⟩:=HO20.out.slice_of (by rw[HBL.out];have:=HQ.out;have:=HM.out;omega);rw[HBL.out] at HO20⊢;have HK21:Hid (Ms w wr PB gD DB N cp b l n im bm mb tb tn D dn (splice D14 (bm*64) ((q9 mb D b).take (64*0)))):=by show Ms _ _ _ _ _ _ _ _ _ _ _ _ _ _ _ _ _ _;rw[EA];exact HK.out
     clear HK;go_wp2;clear k0 k1 k2 p0 p1 p2 p3 p4 p5 p6;go_loopw [10] (fun x wr=> ∃(j:Nat),x=za j∧j≤mb∧zi wr (DB+1) 5 (.slice (some (zd gB)) M cB) (q9 mb D b)∧Ms w wr PB gD DB N cp b l n im bm mb tb tn D dn (splice D14 (bm*64) ((q9 mb D b).take (64*j)))) (fun x _=>mb-(intOf x).toNat)
     case atStart=>exact⟨0,rfl,by omega,HO20.out,HK21.out⟩
     case round=>
      clear HO20 HK21;obtain⟨j,rfl,hj,ho,hm⟩:=hrel;have HOB:Hid (zi wr (DB+1) 5 (.slice (some (zd gB)) M cB) (q9 mb D b)):=ho;have hgB:=ho.lt gB rfl;have HgB:Hid (DB+1≤gB):=hgB.1;have HL24:Hid ((splice D14 (bm*64) ((q9 mb D b).take (64*j))).length=N):=Yy (by rw[List.length_take,HL14.out];have:=HQ.out;have:=HN.out;have:=HM.out;omega) HL14.out;have HK24:Hid _:=hm;obtain⟨D24,hD24⟩: ∃d,d=splice D14 (bm*64) ((q9 mb D b).take (64*j)):=⟨_,rfl⟩
      rw[←hD24] at HK24 HL24;have HD24:Hid _:=hD24;obtain⟨p0,p1,p2,p3,p4,p5,p6⟩:=seven hm.pb;clear hD24 ho hm hgB;by_cases hlj:j<mb
      ·have hlj':(j:Int)<(mb:Int):=by omega
       obtain⟨r,hr⟩: ∃r:Nat,r=bm+j:=⟨_,rfl⟩;have hqs:(bm:Int)+(j:Int)=(r:Int):=by omega
       have Hr:Hid (r=bm+j):=hr;have hrb:r≤4096:=by have:=HQ.out;omega
       have hrw:IntKind.i64.wrap (r:Int)=(r:Int):=by rw[IntKind.wrap_i64];omega
       clear hr;go_upto_region 24 with fail;clear p0 p1 p2 p3 p4 p5 p6;have HOBd:Hid (zi wr.drew (DB+1) 5 (.slice (some (zd gB)) M cB) (q9 mb D b)):=HOB.out.chg (Chg.drew (Chg.refl 0 0 wr)) (by intro g _;omega);clear HOB;have HK24d:Hid _:=HK24.out.chg (Chg.drew (Chg.refl 0 0 wr));clear HK24;refine zp (fun w':World=>w'.heap[DB]?=some (.cells #[.slice (some (zd gD)) N cp,zc] 26 (0,0))∧w'.heap[w.heap.size]?=some (.cells #[za b,za l,za n] 57 (0,0))∧w'.heap[PB]?=some (.cells #[za im,za bm,za mb,za tb,za tn,za D,za dn] 92 (0,0))) hmx ?_
       generalize wr.drew=X24 at*;have HS:Hid (_∧_∧_):=⟨HK24d.out.db,HK24d.out.g0,HK24d.out.pb⟩;refine hTk 0 (.pointer (some (zd DB))) rfl (fun w' hw'=>by go_simp) HS.out ?_;go_simp;refine hTk 1 (.slice (some (zd gD)) N cp) rfl (fun w' hw'=>by obtain⟨h4,h5⟩:=ZR hw'.1;go_simp) HS.out ?_;go_simp;refine hTk 2 (.pointer (some ⟨PB,1,none⟩)) rfl (fun w' hw'=>by go_simp) HS.out ?_;go_simp;refine hTk 3 (za bm) rfl (fun w' hw'=>by obtain⟨h4,h5,h6,h7,h8,h9,h10⟩:=seven hw'.2.2;go_simp) HS.out ?_
       go_simp;refine hTk 4 (za j) rfl (fun w' hw'=>by go_simp) HS.out ?_;go_simp;refine hTk 5 (za r) rfl (fun w' hw'=>by go_simp) HS.out ?_;go_simp;refine hTk 6 (.slice (some (zd gB)) M cB) rfl (fun w' hw'=>by go_simp) HS.out ?_;go_simp;refine hTk 7 (za j) rfl (fun w' hw'=>by go_simp) HS.out ?_;go_simp;refine zg 8 rfl rfl (by kernel_rfl) ?_;refine zl 46 #[.slice (some (zd gB)) M cB,za j] (by first|kernel_rfl|go_simp) ((show Calls _ _ _ _ _ from by have h:=Vi X24 (k:=j) (ys:=q9 mb D b) (cap:=cB) (g:=gB) (lo:=DB+1) (hi:=X24.heap.size) (by rw[HBL.out];exact HOBd.out.view (by rw[HBL.out];omega) (fun g hg=>(HOBd.out.lt g hg).2)) (by rw[HBL.out];have:=HM.out;omega) (by rw[HBL.out];omega);rw[HBL.out] at h;exact h)) ?_
       rintro e Y24 ⟨v,rfl,hO,hc⟩;have HK24y:Hid _:=HK24d.out.chg hc;have HOBy:Hid (zi Y24 (DB+1) 5 (.slice (some (zd gB)) M cB) (q9 mb D b)):=HOBd.out.chg hc (by intro g _;omega);have HS:Hid (_∧_∧_):=⟨HK24y.out.db,HK24y.out.g0,HK24y.out.pb⟩;have HO:Hid (zi Y24 (DB+1) 5 v (JA (q9 mb D b) j)):=hO.base (fun g hg=>by have:=(hO.lt g hg).1;have:=HK24d.out.lt;omega);clear HK24d hc hO;refine⟨_,rfl,HS.out,?_⟩
       go_simp;refine zg 9 rfl rfl (by kernel_rfl) ?_;refine zl 41 #[.slice (some (zd gD)) N cp,za ((r:Int)),v] (by first|kernel_rfl|go_simp) (HK24y.out.l1Put HL24.out hNb (JA (q9 mb D b) j) (Xa (HBL.out.trans HM.out.1) hlj) (r) (by have:=HQ.out;have:=HN.out;have:=Hr.out;omega) HO.out) ?_;rintro e Z24 ⟨rfl,hK,hL,hc⟩;have HOBz:Hid _:=HOBy.out.chg hc (by intro g hg;cases hg;show gB<gD∨gD+1≤gB;have:=HgB.out;have:=HK24y.out.lo;omega)
       have HK25:Hid (Ms w Z24 PB gD DB N cp b l n im bm mb tb tn D dn (splice D14 (bm*64) ((q9 mb D b).take (64*(j+1))))):=by
        show Ms _ _ _ _ _ _ _ _ _ _ _ _ _ _ _ _ _ _;rw[←abF (HBL.out.trans HM.out.1) hlj (by rw[HL14.out];have:=HQ.out;have:=HN.out;omega),←HD24.out,←Hr.out];exact hK
       have HS':Hid (_∧_∧_):=⟨HK25.out.db,HK25.out.g0,HK25.out.pb⟩;clear hK hL hc HS HK24y HL24 HO HOBy HOBd;refine⟨_,rfl,HS'.out,?_⟩;clear HS';refine zt (by kernel_rfl) (NoPanic.normal ?_);go_wp2;go_roundw
       case rel=>exact⟨j+1,by go_num,by omega,HOBz.out,HK25.out⟩
       case measure=>simp[intOf];omega
      ·have hlj': ¬(j:Int)<(mb:Int):=by omega
       have HDf:Hid (D24=splice D14 (bm*64) (q9 mb D b)):=by show _=_;rw[HD24.out,List.take_of_length_le (by rw[HBL.out];have:=HM.out;omega)]
       clear HD24 HOB HgB;obtain⟨ti,hti,hz0,hz1,hz2⟩:=info_parts Tryz.infoI64;go_wp2_with (at_make;refine wpList_make_full _ rfl _ _ 33 rfl wr.heap.size 2 ti (za 0) 1 Tryz.underlying33 hti hz0 hz1 _ _ _ _ 8 rfl rfl rfl rfl (by rw[hz2];omega) (by unfold maxLen;omega) (by simp) ?_);intro W25 hown hgrow;have OI:zP W25 wr.heap.size 2 (.slice (some (zd wr.heap.size)) 8 8) (List.replicate 8 0):=by
        unfold zP;rw[List.length_replicate,List.map_replicate];rw[ab5] at hown;exact hown
       have c25:Chg 0 0 wr W25:=Chg.ofGrown hgrow (by simp);have HK25:Hid _:=HK24.out.chg c25;have hEn:=J3 W25 (lo:=wr.heap.size) (hi:=W25.heap.size) aag (some (zd wr.heap.size)) 8 (by simp) (OI.view (by simp) (fun g hg=>(OI.lt g hg).2));clear OI c25 HK24 hown hgrow;go_wp2_with fail;refine hEn.mono ?_;rintro e W26 ⟨vi,rfl,oi,ci⟩;have HK26:Hid _:=HK25.out.chg ci;have Hoi:Hid (zi W26 W25.heap.size 5 vi (ZW aag)):=oi
       clear ci oi hEn HK25;go_wp2_with fail;refine(qM W26 32 (by omega)).mono ?_;rintro e W27 ⟨gz,rfl,oz,cz⟩;have HK27:Hid _:=HK26.out.chg cz;have oi2:=Hoi.out.chg cz (by intro g _;omega);have hJ:=zX W27 (by rw[V7];omega) (by simp) (oi2.view (by rw[V7];omega) (hi:=W27.heap.size) (fun g hg=>(oi2.lt g hg).2)) (oz.view (by simp) (hi:=W27.heap.size) (fun g hg=>(oz.lt g hg).2));rw[aa6] at hJ;clear oi2 oz cz Hoi HK26
       go_wp2_with fail;refine hJ.mono ?_;rintro e W28 ⟨vj,rfl,oj,cj⟩;have HK28:Hid _:=HK27.out.chg cj;have HOj:Hid (zi W28 (DB+1) 5 vj Yw):=oj.base (fun g hg=>by have:=(oj.lt g hg).1;have:=HK27.out.lt;omega);obtain⟨j0,j1⟩:=ZR HK28.out.db;obtain⟨t0,t1,t2,t3,t4,t5,t6⟩:=seven HK28.out.pb;have hPut:=HK28.out.l1Put HL24.out hNb Yw V8 tb (by have:=HQ.out;have:=HN.out;omega) HOj.out;clear oj cj hJ HK27 p0 p1 p2 p3 p4 p5 p6
       go_wp2_with fail;refine hPut.mono ?_;rintro e W29 ⟨rfl,hK,hL,hc⟩;have HF:Hid (splice D24 (tb*64) Yw=Ei b l n im bm mb tb D):=by show _=_;unfold Ei;rw[HDf.out,HD14.out,HD8.out,HD7.out,HD6.out,HN.out]
       clear hPut HOj HK28 hL hc j0 j1 t0 t1 t2 t3 t4 t5 t6 HL24;obtain⟨j0,j1⟩:=ZR hK.db;obtain⟨y0,y1,yf0,yf1⟩:=zn hK.r0;have hlo:=hK.lo;have hDl:=hK.lt;have HC:Hid (Chg 0 0 w ((W29.setCell (zd (w.heap.size+1)) (.slice (some (zd gD)) N cp)).setCell ⟨w.heap.size+1,1,none⟩ (zc))):=hK.ch.step (Chg.set2 _ _ _ _) (by omega);have HO:Hid (qK ((W29.setCell (zd (w.heap.size+1)) (.slice (some (zd gD)) N cp)).setCell ⟨w.heap.size+1,1,none⟩ (zc)) w.heap.size W29.heap.size 84 5 (.agg #[.slice (some (zd gD)) N cp,zc]) ⟨splice D24 (tb*64) Yw,[]⟩):=by
        have n1:(Value.slice (some (zd gD)) N cp).ownBlock≠some (w.heap.size+1):=by simp[Value.ownBlock];omega
        refine⟨_,_,[],fun _=>zc,rfl,((hK.dr.base (base':=w.heap.size) (fun g hg=>by cases hg;show w.heap.size≤gD;omega)).set (p:=(zd (w.heap.size+1))) n1 _).set (p:=⟨w.heap.size+1,1,none⟩) n1 _,Zj.nil _ _ _ _,by simp,?_,by simp[Value.ownBlock],by simp⟩;intro g' hg'
        cases hg'
        show gD<W29.heap.size;omega
       have HSz:Hid (((W29.setCell (zd (w.heap.size+1)) (.slice (some (zd gD)) N cp)).setCell ⟨w.heap.size+1,1,none⟩ (zc)).heap.size=W29.heap.size):=by show _=_;simp[World.setCell]
       clear hK hlo hDl;go_wp2;refine bodyPost_ret (v:= .agg #[.slice (some (zd gD)) N cp,zc]) (by simp[results,Tryz.results20,go_sem,y0,y1]) rfl ⟨_,rfl,?_,HC.out⟩;rw[←HF.out,HSz.out];exact HO.out
theorem NK (w:World)(b l n:Int)(hv:Jt b l n=false):
  Calls Tryz.prog 20 #[Uv b l n] w fun e w'=> ∃v,e= .returned v∧qK w' w.heap.size w'.heap.size 84 5 v Dsk.none∧Chg 0 0 w w':=by
 have hA:Chg 0 0 w ((w.alloc (.cells #[za b,za l,za n] 57)).alloc (.cells #[zc,zc] 26)):=(Chg.alloc (Chg.refl 0 0 w) _).alloc _;obtain⟨z,b0,b1⟩:=zN w (.cells #[za b,za l,za n] 57) (.cells #[zc,zc] 26);have hN:=jf ((w.alloc (.cells #[za b,za l,za n] 57)).alloc (.cells #[zc,zc] 26)) b l n;rw[hv] at hN;clear hv;go_enter Tryz.func20,Tryz.ntmps20;go_wp2_with fail;generalize (w.alloc (.cells #[za b,za l,za n] 57)).alloc (.cells #[zc,zc] 26)=w0 at*
 refine hN.mono ?_;rintro e w1 ⟨rfl,h1⟩;have B1:=(h1.block (w.heap.size+1) (by omega) (by omega)).trans b1;have s1:=h1.size;have hC:=hA.trans h1;obtain⟨y0,y1,yf0,yf1⟩:=zn B1;have HC:Hid (Chg 0 0 w ((w1.setCell (zd (w.heap.size+1)) (zc)).setCell ⟨w.heap.size+1,1,none⟩ (zc))):=hC.step (Chg.set2 _ _ _ _) (by omega);clear hN h1 b0 b1 hA hC B1;go_wp2;exact bodyPost_ret (v:= .agg #[zc,zc]) (by simp[results,Tryz.results20,go_sem,y0,y1]) rfl ⟨_,rfl,qK.none _ _ _ _ _,HC.out⟩
def ab7 (b l n:Nat):List Int:=Ei b l n (2+l) (3+l) (upN b 512) (3+l+upN b 512) (jr b l n)
def VV (b l n:Int):Dsk:=if Jt b l n=true then⟨ab7 b.toNat l.toNat n.toNat,[]⟩ else Dsk.none
theorem acS {b l n:Int}(h:Jt b l n=true): ∃p q r:Nat,b=p∧l=q∧n=r∧Z4 (p:Int) (q:Int) (r:Int)∧jr p q r<p:=by
 have hb:=abZ h;obtain⟨h1,h2,h3,h4,h5,h6⟩:=id hb;refine⟨b.toNat,l.toNat,n.toNat,by omega,by omega,by omega,?_,?_⟩
 ·exact⟨by omega,by omega,by omega,by omega,by omega,by omega⟩
 ·unfold Jt at h;rw[Bool.and_eq_true,decide_eq_true_eq,decide_eq_true_eq] at h;exact h.2
theorem VW {p q r:Nat}(h:Jt p q r=true):VV p q r=⟨ab7 p q r,[]⟩:=by unfold VV;rw[if_pos h];simp
theorem KX (w:World)(b l n:Int):
  Calls Tryz.prog 20 #[Uv b l n] w fun e w'=> ∃v,e= .returned v∧qK w' w.heap.size w'.heap.size 84 5 v (VV b l n)∧Chg 0 0 w w':=by
 cases h:Jt b l n with
 |false=>unfold VV;rw[h];exact NK w b l n h
 |true=>
  obtain⟨p,q,r,rfl,rfl,rfl,hg,hd⟩:=acS h;obtain⟨h1,h2,h3,h4,h5,h6⟩:=id hg;have e1:upN p 512=(p+511)/512:=rfl;have e2:upN (r*32) 64=(r*32+63)/64:=rfl;have e3:jr p q r=3+q+upN p 512+upN (r*32) 64:=rfl;rw[VW h];exact Ez w p q r (2+q) (3+q) (upN p 512) (3+q+upN p 512) (upN (r*32) 64) (jr p q r) ((p:Int)-jr p q r) hg h rfl rfl (by omega) rfl (by omega) hd (by omega) (by omega) (by omega)
structure UR (lo hi:Int)(t:Tx):Prop where
 v:jx t
 b: ∀x∈t.homes,Byt x.2
 h: ∀x∈t.homes,lo≤x.1∧x.1≤hi
 r: ∀x∈t.revs,lo≤x∧x≤hi
structure LI (d:Dsk)(sz:Nat)(F:Nat→FB)(st sq hd us q0:Nat)(ts:List Tx):Prop where
 log:jJ d (sz+156) sz F st q0
 hdb:1≤hd∧hd≤sz
 usb:us≤sz
 z:st=0→us=0∧ts= []
 n:st≠0→hd=(st-1+us) % sz+1∧win F sz (st-1) us=ts.flatMap ZF∧sq=q0+ts.length
 ok: ∀t∈ts,UR ((sz:Int)+2) ((sz:Int)+155) t
 seqs: ∀i,i<ts.length→(ts.getD i ⟨0,[],[]⟩).seq=(q0:Int)+i
 com: ∀i,i<sz→ ∀n c m,F i= .com n c m→n<(sq:Int)
 sqb:1≤sq∧sq≤100000
 qb:q0≤100000
theorem LI.empty {d:Dsk}{sz:Nat}{F:Nat→FB}{st sq hd us q0:Nat}{ts:List Tx}(h:LI d sz F st sq hd us q0 ts)(h0:us=0):ts= []:=by
 by_cases hs:st=0
 ·exact(h.z hs).2
 ·have e:=(h.n hs).2.1;rw[h0] at e
  cases ts with
  |nil=>rfl
  |cons t r=>
   rw[List.flatMap_cons] at e;have:ZF t= []:=by
    have:=congrArg List.length e;rw[List.length_append] at this;simp[win] at this;exact List.eq_nil_of_length_eq_zero (by omega)
   exact absurd this (aao t)
theorem LI.valid {d:Dsk}{sz:Nat}{F:Nat→FB}{st sq hd us q0:Nat}{ts:List Tx}(h:LI d sz F st sq hd us q0 ts):zJ sz st sq hd us=true:=by
 have hb:=h.log.big;have hsb:=h.log.sb;have hq:=h.sqb;have hh:=h.hdb;have hu:=h.usb;have hI:Z5 sz st sq hd us:=⟨⟨by omega,by omega⟩,⟨by omega,by omega⟩,hsb.1,⟨by omega,by omega⟩,by omega,by omega⟩;by_cases hs:st=0
 ·rw[JM hI (by omega)];simp[(h.z hs).1]
 ·rw[YD hI (by omega)];have e:=(h.n hs).1;apply decide_eq_true;unfold qk;rw[show(st:Int)-1+(us:Int)=((st-1+us:Nat):Int) by omega];have e2:((st-1+us:Nat):Int) % (sz:Int)=(((st-1+us) % sz:Nat):Int):=rfl;rw[e2];omega
theorem LI.scan {d:Dsk}{sz:Nat}{F:Nat→FB}{st sq hd us q0:Nat}{ts:List Tx}(h:LI d sz F st sq hd us q0 ts)(hs:st≠0):ZV ((sz:Int)+2) ((sz:Int)+155) (win F sz (st-1) sz) q0 ts:=by
 have hb:=h.log.big;obtain⟨e1,e2,e3⟩:=h.n hs;have hu:=h.usb;have e:win F sz (st-1) sz=win F sz (st-1) us++win F sz (st-1+us) (sz-us):=by
  rw[←UP];congr 1;omega
 rw[e,e2];refine NH ts q0 _ h.log.sb.2.1 (fun t ht=>⟨(h.ok t ht).v,(h.ok t ht).b,(h.ok t ht).h,(h.ok t ht).r⟩) h.seqs (fun n c m hm=>?_);obtain⟨i,hi,hF⟩:=aaq (by omega) hm;have:=h.com i hi n c m hF.symm;omega
theorem LI.tail {d:Dsk}{sz:Nat}{F:Nat→FB}{st sq hd us q0:Nat}{ts:List Tx}(h:LI d sz F st sq hd us q0 ts):
  ∃st' us' q0':Nat,LI (doD d (ZI sz st sq hd us) (-1)) sz F st' sq hd us' q0' []∧Xy sz st sq hd us=j8 sz st' sq hd us':=by
 have hv:=h.valid;have hd1:=h.hdb;have hq:=h.sqb;have hb:=h.log.big;have hvd:=ZC h.log.valid;unfold ZI Xy;rw[if_pos hv];by_cases h0:us=0
 ·refine⟨st,us,q0,?_,by rw[if_neg (by omega)]⟩;rw[if_neg (by rw[h0];simp)];have hts:=h.empty h0;have e:doD d [] (-1)=d:=by
   unfold doD;rw[if_pos ⟨hvd,by simp⟩,JV];rfl
  rw[e,←hts];exact h
 ·refine⟨hd,0,sq,?_,by rw[if_pos (by omega)];rfl⟩;rw[if_pos ⟨hv,by omega⟩];obtain⟨d',e1,e2⟩:=Kx (st':=(hd:Int)) (sq':=(sq:Int)) h.log ⟨by omega,by omega⟩ ⟨by omega,by omega⟩;have e:doD d (jC (qJ 106 108 111 103 1 sz sq hd)) (-1)=d':=by
   unfold doD;rw[if_pos ⟨hvd,by simp[jC]⟩,JV,e1];rfl
  rw[e];refine⟨e2,hd1,by omega,fun e=>by omega,fun _=>⟨?_,rfl,by simp⟩,by simp,by simp,h.com,hq,hq.2⟩;rw[Nat.add_zero,Nat.mod_eq_of_lt (by omega)];omega
theorem adh {t:Tx}{n c m:Int}(h:FB.com n c m∈ZF t):n=t.seq:=by
 unfold ZF Kc at h;rcases List.mem_append.1 h with h|h
 ·rcases List.mem_append.1 h with h|h
  ·obtain⟨_,_,e⟩:=List.mem_map.1 h
   cases e
  ·obtain⟨c,_,e⟩:=List.mem_flatMap.1 h;unfold Uq at e;rcases List.mem_cons.1 e with e|e
   ·cases e
   ·obtain⟨_,_,e⟩:=List.mem_map.1 e
    cases e
 ·have:=List.mem_singleton.1 h;unfold abM at this
  cases this
  rfl
theorem LI.app {d:Dsk}{sz:Nat}{F:Nat→FB}{st sq hd us q0:Nat}{ts:List Tx}(h:LI d sz F st sq hd us q0 ts){t:Tx}(ht:UR ((sz:Int)+2) ((sz:Int)+155) t)(hsq:t.seq=sq)(hl:(TL t).length≤sz-us)(hq9:sq<100000):
  ∃(F':Nat→FB) (st' hd' us' q0':Nat),LI (doD d (JS sz st sq hd us t) (-1)) sz F' st' (sq+1) hd' us' q0' (ts++ [t])∧KD sz st sq hd us t=j8 sz st' ((sq+1:Nat):Int) hd' us'∧st'≠0:=by
 have hv:=h.valid;have hd1:=h.hdb;have hq:=h.sqb;have hb:=h.log.big;have hu:=h.usb;have hvd:=ZC h.log.valid;have hs0:0<sz:=by omega
 have hxl:(ZF t).length=(TL t).length:=by rw[←Y8 ht.v,List.length_map]
 have hxo:=adg ht.v ht.b;have htk:jt sz st sq hd us t=true:=by
  unfold jt;rw[hv,qz ht.v,decide_eq_true (show(sq:Int)=t.seq from hsq.symm),decide_eq_true (show(sq:Int)<4294967295 by omega),decide_eq_true (show((TL t).length:Int)≤(sz:Int)-us by omega)];rfl
 have eP: ∀m:Nat,qk sz hd m=(((hd-1+m) % sz+1:Nat):Int):=by
  intro m;unfold qk;rw[show(hd:Int)-1+(m:Int)=((hd-1+m:Nat):Int) by omega];rfl
 obtain⟨d1,q1,r1,hlog1,hst1,hq1⟩: ∃(d1:Dsk) (q1:Nat),Zc d (zC sz st sq hd)=some d1∧jJ d1 (sz+156) sz F ((if st=0 then hd else st:Nat):Int) q1∧(st≠0→q1=q0)∧(st=0→q1=sq):=by
  by_cases hs:st=0
  ·obtain⟨d',e1,e2⟩:=Kx (st':=(hd:Int)) (sq':=(sq:Int)) h.log ⟨by omega,by omega⟩ ⟨by omega,by omega⟩;refine⟨d',sq,?_,by rw[if_pos hs];exact e2,fun e=>absurd hs e,fun _=>rfl⟩;unfold zC;rw[if_pos (by omega)];exact e1
  ·refine⟨d,q0,?_,by rw[if_neg hs];exact h.log,fun _=>rfl,fun e=>absurd e hs⟩;unfold zC;rw[if_neg (by omega)];rfl
 obtain⟨d2,e1,hlog2⟩:=Ng hlog1 (hd-1) (ZF t) (by omega) hxo;rw[Y8 ht.v,hxl,show(((hd-1:Nat):Int)+1)=(hd:Int) by omega] at e1;have edo:doD d (JS sz st sq hd us t) (-1)=d2:=by
  have hln:(zC sz st sq hd++QS sz hd (TL t) (TL t).length++ [(2,0,[])]).length≤4000:=by
   rw[List.length_append,List.length_append,Z9];have:(zC sz st sq hd).length≤2:=by unfold zC;split<;>simp[jC]
   simp;omega
  unfold doD JS;rw[if_pos htk,if_pos ⟨hvd,hln⟩,JV,List.append_assoc,Qa,r1];show(Zc d1 (QS sz hd (TL t) (TL t).length++ [(2,0,[])])).getD _=_;rw[e1];rfl
 rw[edo];refine⟨QC F sz (hd-1) (ZF t),if st=0 then hd else st,(hd-1+(TL t).length) % sz+1,us+(TL t).length,q1,?_,?_,?_⟩
 ·refine⟨hlog2,⟨by omega,by have:=Nat.mod_lt (hd-1+(TL t).length) hs0;omega⟩,by omega,fun e=>?_,fun _=>⟨?_,?_,?_⟩,?_,?_,?_,by omega,by by_cases hs:st=0;(· rw[hq1 hs];omega);(· rw[hst1 hs];exact h.qb)⟩
  ·exfalso;split at e<;>omega
  ·by_cases hs:st=0
   ·rw[if_pos hs,(h.z hs).1,Nat.zero_add]
   ·rw[if_neg hs];have e:=(h.n hs).1;rw[show hd-1=(st-1+us) % sz by omega,Nat.mod_add_mod,Nat.add_assoc]
  ·rw[List.flatMap_append,UP];by_cases hs:st=0
   ·obtain⟨z1,z2⟩:=h.z hs;rw[if_pos hs,z1,z2,←hxl];show win _ sz (hd-1) 0++win _ sz (hd-1+0) (ZF t).length=_;rw[Nat.add_zero,EI hs0 (by omega)];simp[win]
   ·obtain⟨n1,n2,n3⟩:=h.n hs;rw[if_neg hs];have ehd:hd-1=(st-1+us) % sz:=by omega
    have hput: ∀i,i<sz→QC F sz (hd-1) (ZF t) i=QC F sz (st-1+us) (ZF t) i:=by
     intro i hi;unfold QC gap;rw[ehd,Nat.mod_mod]
    have hw: ∀p k,win (QC F sz (hd-1) (ZF t)) sz p k=win (QC F sz (st-1+us) (ZF t)) sz p k:=by
     intro p k;unfold win;apply List.map_congr_left;intro i _;exact hput _ (Nat.mod_lt _ hs0)
    rw[hw,hw,abm hs0 (by omega),n2,←hxl,EI hs0 (by omega)];simp
  ·by_cases hs:st=0
   ·rw[hq1 hs,(h.z hs).2];simp
   ·rw[hst1 hs,List.length_append,(h.n hs).2.2];simp;omega
  ·intro x hx;rcases List.mem_append.1 hx with hx|hx
   ·exact h.ok x hx
   ·rw[List.mem_singleton.1 hx];exact ht
  ·intro i hi;rw[List.length_append,List.length_singleton] at hi;have hqq:st=0→ts= []:=fun hs=>(h.z hs).2;by_cases hlt:i<ts.length
   ·have hs:st≠0:=fun e=>by rw[hqq e] at hlt;simp at hlt
    have:=h.seqs i hlt;rw[hst1 hs,←this];simp[List.getD_eq_getElem?_getD,List.getElem?_append_left hlt]
   ·obtain rfl:i=ts.length:=by omega
    have e2:((ts++ [t]).getD ts.length ⟨0,[],[]⟩)=t:=by simp[List.getD_eq_getElem?_getD]
    rw[e2,hsq];by_cases hs:st=0
    ·rw[hq1 hs,hqq hs];simp
    ·rw[hst1 hs,(h.n hs).2.2];omega
  ·intro i hi n c m e;rcases ach (F:=F) (sz:=sz) (p:=hd-1) (xs:=ZF t) i with hm|hm
   ·rw[e] at hm;have:=adh hm;omega
   ·rw[e] at hm;have:=h.com i hi n c m hm.symm;omega
 ·unfold KD;rw[if_pos htk,eP];have e3:(if(st:Int)=0 then(hd:Int) else(st:Int))=((if st=0 then hd else st:Nat):Int):=by split<;>split<;>first|rfl|omega
  rw[e3];congr 1
 ·split<;>omega
end Go.Proofs.YtacjklochmelfaaGreatDoor
