import Derived.Test.YtacjklochmelfaaGreatDoorDrawSp
import Derived.Test.YtacjklochmelfaaGreatDoorOkSup
import Derived.Test.YtacjklochmelfaaGreatDoorRows
import Derived.Test.YtacjklochmelfaaGreatDoorCells2
import Derived.Test.YtacjklochmelfaaGreatDoorSettle
import Derived.Test.YtacjklochmelfaaGreatDoorPutByt
import Derived.Deep.DeepCutAuto
import Derived.Test.YtacjklochmelfaaGreatDoorSurvLast
import Derived.Test.YtacjklochmelfaaGreatDoorJReadC
import Derived.Test.YtacjklochmelfaaGreatDoorTxnBase
namespace Go.Proofs.YtacjklochmelfaaGreatDoor
open Go.RowKit
set_option maxRecDepth 100000
set_option maxHeartbeats 16000000
def abv (S:ScW) (w0 w':World) (A:Nat) (e:Ending):Prop:= ∃q hv rv ps rs,e= .returned (.agg #[za q,hv,rv])∧SpT w' w0.heap.size hv rv ps rs∧(ps.length≤200∧rs.length≤101)∧EnW S w0 w' A
structure DA (S:ScW)(B C:Nat)(w3 w:World)(A:Nat)(q:Int)(hv rv:Value)(ps:List Wr)(rs:List Int):Prop where
 en:EnW S w3 w A
 lt:B<w3.heap.size∧w3.heap.size≤C
 rb:w.heap[B]?=some (.cells #[za 0,zc,zc] 35 (0,0))
 tb:w.heap[C]?=some (.cells #[za q,hv,rv] 35 (0,0))
 ow:SpT w w3.heap.size hv rv ps rs
 few:ps.length≤200∧rs.length≤101
theorem DA.step {S:ScW}{B C:Nat}{w3 w w':World}{A A':Nat}{q:Int}{hv rv:Value}{ps:List Wr}{rs:List Int}(h:DA S B C w3 w A q hv rv ps rs)(hB:S.p<B)(e:EnW S w w' A'):DA S B C w3 w' A' q hv rv ps rs:=by
 have ht:=h.en.top;have hl:=h.lt;have c:=e.chg;have h1:=(gLt h.tb);exact⟨h.en.join e,h.lt,(c.block _ (by omega) (by omega)).trans h.rb,(c.block _ (by omega) (by omega)).trans h.tb,h.ow.chg c (by omega),h.few⟩
theorem DA.fin {S:ScW}{B C:Nat}{w0 w3 w wf:World}{A A':Nat}{q:Int}{hv rv:Value}{ps:List Wr}{rs:List Int}(h:DA S B C w3 w A q hv rv ps rs)(h0:EnW S w0 w3 A)(hB:w0.heap.size≤B)(hcf:Chg B (B+1) w wf)(hA:A≤A'):abv S w0 wf A' (.returned (.agg #[za q,hv,rv])):=by
 have hl:=h.lt;have hs:=h0.size;exact⟨q,hv,rv,ps,rs,rfl,(h.ow.chg hcf (by omega)).low hs,h.few,(((h0.join h.en).own hcf hB)).mono hA⟩
theorem Vb {S:ScW}{w:World}{A:Nat}(h:EnW S w w A)(hA:A≤1000000):
  Calls Tryz.prog 49 #[.pointer (some (zd S.p))] w fun e w'=>abv S w w' (A+10010) e:=by
 have z2:=zh w (.cells #[za 0,zc,zc] 35);have hE0:EnW S w (w.alloc (.cells #[za 0,zc,zc] 35)) A:=h.alloc _;have hs1:=(gLt z2);have ht:=h.top;clear h;go_enter Tryz.func49,Tryz.ntmps49;go_wp2_with fail;generalize w.alloc (.cells #[za 0,zc,zc] 35)=w1 at*;refine(YZ hE0.self (by omega) 300 (by omega)).mono ?_;rintro e w2 ⟨r1,rfl,r10,r11,hE1⟩;obtain⟨q,hq⟩: ∃q,IntKind.i64.wrap (1+r1)=q:=⟨_,rfl⟩;go_wp2_with fail
 refine(YZ hE1.self (by omega) 90 (by omega)).mono ?_;rintro e w3 ⟨r2,rfl,r20,r21,hE2⟩;have hs2:=hE1.size;have hs3:=hE2.size;have hb3:=(hE2.chg.block _ (by omega) (by omega)).trans ((hE1.chg.block _ (by omega) (by omega)).trans z2);have HE3:Hid _:=(hE0.join hE1).join hE2;clear z2 hE0 hE1;go_wp2_with fail;refine(Vc hE2.self (by omega) q r2).mono ?_;rintro e w4 ⟨hv,rv,t,rfl,ho,hl,hE4⟩;have hs4:=hE4.size
 have hb4:=(hE4.chg.block _ (show w.heap.size<w3.heap.size by omega) (by omega)).trans hb3;have cz:Chg 0 0 w4 (w4.alloc (.cells #[za q,hv,rv] 35)):=Chg.alloc (Chg.refl 0 0 w4) _;have HT:Hid (_∧_):=⟨ho.chg cz (by omega),hl⟩;have HD:Hid (DA S w.heap.size w4.heap.size w3 (w4.alloc (.cells #[za q,hv,rv] 35)) (A+1+1+10000) q hv rv t.homes t.revs):=⟨hE4.keep cz,⟨by omega,by omega⟩,(cz.block _ (by omega) (by omega)).trans hb4,zh _ _,(SpT.of ho).chg cz (by omega),hl.1,by omega⟩
 have Hb3:Hid _:=hb3;have HL:Hid _:=hl;clear hE2 hE4 hb3 hb4 ho hl cz;obtain⟨ha,hc,rfl,-⟩:=HD.out.ow.rows;obtain⟨ra,rc,rfl⟩:=HD.out.ow.rv'.shape;obtain⟨nh,hnh⟩: ∃n,t.homes.length=n:=⟨_,rfl⟩;obtain⟨nr,hnr⟩: ∃n,t.revs.length=n:=⟨_,rfl⟩;rw[hnh,hnr] at HD HT⊢;clear hnh hnr;go_wp2_with fail;generalize w4.alloc (.cells #[za q,.slice ha nh hc,.slice ra nr rc] 35)=w5 at*;generalize w4.heap.size=C at*;refine(VN HD.out.en.self (by omega) 5 (by omega)).mono ?_
 rintro e w6 ⟨b,rfl,hE6⟩;have HD6:Hid _:=HD.out.step ht.2 hE6;have HT6:Hid (_∧_):=⟨HT.out.1.chg hE6.chg (by omega),HL.out⟩;clear HD HT hE6;obtain⟨⟨t0,t1,t2⟩,f0,f1,f2⟩:=tri HD6.out.tb
 cases b
 ·go_wp2_with (refine wpList_store_row rfl 35 (.tmp 2) (.tmp 16) rfl rfl w.heap.size rfl [za q,.slice ha nh hc,.slice ra nr rc] [za 0,zc,zc] 35 rfl HD6.out.rb rfl (by kernel_rfl) (by simp[Value.oneCell']) ?_;intro wf hbf hcf);have hl1:(loadVar 35 (zd w.heap.size)).run Tryz.prog wf= .ok (.agg (List.toArray [za q,.slice ha nh hc,.slice ra nr rc])) wf:=run_loadVar_mid _ _ _ _ [za q,.slice ha nh hc,.slice ra nr rc] _ (zj hbf) Tryz.underlying35 rfl (by kernel_rfl)
  refine bodyPost_ret (zu Tryz.results49 rfl hl1) rfl ?_;exact HD6.out.fin (HE3.out.mono (by omega)) (Nat.le_refl _) hcf (by omega)
 ·go_wp2_with fail;refine(EB HD6.out.en (by omega) HT6.out.1 HT6.out.2 ⟨HD6.out.lt.2,HD6.out.tb⟩).mono ?_;rintro e w7 ⟨q',hv',rv',ps,rs,rfl,hS,hf,hE7,hC7⟩;have hlt:=HD6.out.lt;have hrb:=(hE7.chg.block _ (by omega) (by omega)).trans Hb3.out;obtain⟨ha',hc',rfl,-⟩:=hS.rows;obtain⟨ra',rc',rfl⟩:=hS.rv'.shape;clear t0 t1 t2 f0 f1 f2 HD6;go_upto_region 4 with(refine wpList_store_row rfl 35 (.tmp 3) (.tmp 15) rfl rfl C rfl [za q',.slice ha' ps.length hc',.slice ra' rs.length rc'] [za q,.slice ha nh hc,.slice ra nr rc] 35 rfl hC7 rfl (by kernel_rfl) (by simp[Value.oneCell']) ?_;intro w8 hb8 hc8)
  have HY:Hid (DA S w.heap.size C w3 w8 (A+10005) q' (.slice ha' ps.length hc') (.slice ra' rs.length rc') ps rs):=⟨(hE7.own hc8 (by omega)).mono (by omega),hlt,(hc8.block _ (gLt hrb) (by omega)).trans hrb,hb8,hS.keep (fun j cur T _ hT hh=>(hc8.block j (gLt hh) (by
   have:j≠C:=fun e=>by rw[e,hC7] at hh;cases hh;exact hT rfl
   omega)).trans hh),hf⟩
  clear hS hf hE7 hC7 hrb hb8 hc8;obtain⟨⟨t0,t1,t2⟩,f0,f1,f2⟩:=tri HY.out.tb;go_wp2_with (refine wpList_store_row rfl 35 (.tmp 2) (.tmp 16) rfl rfl w.heap.size rfl [za q',.slice ha' ps.length hc',.slice ra' rs.length rc'] [za 0,zc,zc] 35 rfl HY.out.rb rfl (by kernel_rfl) (by simp[Value.oneCell']) ?_;intro wf hbf hcf);have hl1:(loadVar 35 (zd w.heap.size)).run Tryz.prog wf= .ok (.agg (List.toArray [za q',.slice ha' ps.length hc',.slice ra' rs.length rc'])) wf:=run_loadVar_mid _ _ _ _ [za q',.slice ha' ps.length hc',.slice ra' rs.length rc'] _ (zj hbf) Tryz.underlying35 rfl (by kernel_rfl)
  refine bodyPost_ret (zu Tryz.results49 rfl hl1) rfl ?_;exact HY.out.fin (HE3.out.mono (by omega)) (Nat.le_refl _) hcf (by omega)
def adt (w w':World) (e:Ending):Prop:= ∃q hv rv ps rs,e= .returned (.agg #[za q,hv,rv])∧SpT w' w.heap.size hv rv ps rs∧(ps.length≤200∧rs.length≤101)∧Chg 0 0 w w'
theorem Js {w:World}{cv:Value}{code:List Int}{hi:Nat}(hb:Byt code)(hl:code.length≤1048600)(hv:zr w 0 hi .u8 cv code)(hhi:hi≤w.heap.size):
  Calls Tryz.prog 21 #[cv] w fun e w'=>adt w w' e:=by
 obtain⟨ao,cap,rfl,hv2⟩:=id hv;have z2:=zh w (.cells #[za 0,zc,zc] 35);have c1:Chg 0 0 w (w.alloc (.cells #[za 0,zc,zc] 35)):=Chg.alloc (Chg.refl 0 0 w) _;have hs1:=(gLt z2);have Hv:Hid (zr w 0 hi .u8 (.slice ao code.length cap) code):=hv;clear hv hv2;go_enter Tryz.func21,Tryz.ntmps21;go_wp2_with fail;generalize w.alloc (.cells #[za 0,zc,zc] 35)=w1 at*;refine(Kt w1 ao code.length cap (by omega)).mono ?_
 rintro e w2 ⟨rfl,hs,c2⟩;have hlt2:=(gLt hs);have hE:EnW ⟨w1.heap.size,.slice ao code.length cap,code,0,hi,min (code.length/16) 12⟩ w2 w2 0:=⟨⟨0,Nat.le_refl _,hs⟩,(Hv.out.chg c1 (by omega)).chg c2 (by omega),Or.inr (by simp only;omega),hb,hl,Chg.refl _ _ _,by simp only;omega⟩;go_wp2_with fail;refine(Vb hE (by omega)).mono ?_;rintro e w3 ⟨q,hv,rv,ps,rs,rfl,hS,hf,hE3⟩;have hc3:=hE3.chg;simp only at hc3
 have hs2:=c2.size;have hs3:=hc3.size;have hb3:=(hc3.block _ (by omega) (by omega)).trans ((c2.block _ (by omega) (by omega)).trans z2);obtain⟨ha',hc',rfl,-⟩:=hS.rows;obtain⟨ra',rc',rfl⟩:=hS.rv'.shape;go_wp2_with (refine wpList_store_row rfl 35 (.tmp 2) (.tmp 5) rfl rfl w.heap.size rfl [za q,.slice ha' ps.length hc',.slice ra' rs.length rc'] [za 0,zc,zc] 35 rfl hb3 rfl (by kernel_rfl) (by simp[Value.oneCell']) ?_;intro wf hbf hcf)
 have hl1:(loadVar 35 (zd w.heap.size)).run Tryz.prog wf= .ok (.agg (List.toArray [za q,.slice ha' ps.length hc',.slice ra' rs.length rc'])) wf:=run_loadVar_mid _ _ _ _ [za q,.slice ha' ps.length hc',.slice ra' rs.length rc'] _ (zj hbf) Tryz.underlying35 rfl (by kernel_rfl);refine bodyPost_ret (zu Tryz.results21 rfl hl1) rfl ?_;refine⟨q,_,_,ps,rs,rfl,(hS.chg hcf (by omega)).low (by omega),hf,?_⟩;have c12:Chg 0 0 w w2:=c1.trans c2
 exact((c12.step hc3 (Or.inr (Or.inl (by omega))))).step hcf (Or.inr (Or.inl (Nat.le_refl _)))
def Xy (sz st sq hd us:Int):Value:=if zJ sz st sq hd us then(if 0<us then j8 sz hd sq hd 0 else j8 sz st sq hd us) else j8 0 0 0 0 0
theorem VF {sz st sq hd us:Int}(h:zJ sz st sq hd us=true):0≤us:=by
 unfold zJ at h;rw[Bool.and_eq_true,decide_eq_true_eq] at h;exact h.1.2.2.2.2.1
theorem Xi (w:World)(sz st sq hd us:Int):
  Calls Tryz.prog 11 #[j8 sz st sq hd us] w fun e w'=>e= .returned (Xy sz st sq hd us)∧Chg 0 0 w w':=by
 have hA:Chg 0 0 w ((w.alloc (jG 30 sz st sq hd us)).alloc (jG 30 0 0 0 0 0)):=(Chg.alloc (Chg.refl 0 0 w) _).alloc _;obtain⟨z,b0,b1⟩:=zN w (jG 30 sz st sq hd us) (jG 30 0 0 0 0 0);go_enter Tryz.func11,Tryz.ntmps11;go_wp2_with fail;generalize (w.alloc (jG 30 sz st sq hd us)).alloc (jG 30 0 0 0 0 0)=w0 at*;refine(jn _ sz st sq hd us).mono ?_;rintro e w1 ⟨rfl,h1⟩;have B0:=(h1.block w.heap.size (by omega) (by omega)).trans b0
 have B1:=(h1.block (w.heap.size+1) (by omega) (by omega)).trans b1;have hA:=hA.trans h1;have hs:=h1.size;clear h1 b0 b1;obtain⟨⟨x0,x1,x2,x3,x4⟩,xf0,xf1,xf2,xf3,xf4⟩:=Xd B0;obtain⟨⟨y0,y1,y2,y3,y4⟩,yf0,yf1,yf2,yf3,yf4⟩:=Xd B1;have HA:Hid (Chg 0 0 w w1):=hA;clear hA B0 B1;by_cases hv:zJ sz st sq hd us=true
 case neg=>
  have Ht:Hid (Xy sz st sq hd us=j8 0 0 0 0 0):=by show _=_;unfold Xy;rw[if_neg hv]
  rw[Bool.not_eq_true] at hv;rw[hv];clear hv;go_wp2;rw[Ht.out];exact bodyPost_ret (v:=j8 0 0 0 0 0) (by simp[results,Tryz.results11,go_sem, *]) rfl ⟨rfl,by refine Chg.setCell (Chg.setCell (Chg.setCell (Chg.setCell (Chg.setCell HA.out ?_ _) ?_ _) ?_ _) ?_ _) ?_ _<;>exact Or.inr (Nat.le_succ _)⟩
 have hu:=VF hv;by_cases hu0:0<us
 ·have Ht:Hid (Xy sz st sq hd us=j8 sz hd sq hd 0):=by show _=_;unfold Xy;rw[if_pos hv,if_pos hu0]
  have hne:(us !=0)=true:=by simp;omega
  rw[hv];clear hv;go_wp2;rw[Ht.out];exact bodyPost_ret (v:=j8 sz hd sq hd 0) (by simp[results,Tryz.results11,go_sem, *]) rfl ⟨rfl,by refine Chg.setCell (Chg.setCell (Chg.setCell (Chg.setCell (Chg.setCell (Chg.setCell (Chg.setCell HA.out ?_ _) ?_ _) ?_ _) ?_ _) ?_ _) ?_ _) ?_ _<;>refine Or.inr ?_<;>simp⟩
 ·have Ht:Hid (Xy sz st sq hd us=j8 sz st sq hd us):=by show _=_;unfold Xy;rw[if_pos hv,if_neg hu0]
  obtain rfl:us=0:=by omega
  rw[hv];clear hv;go_wp2;rw[Ht.out];exact bodyPost_ret (v:=j8 sz st sq hd 0) (by simp[results,Tryz.results11,go_sem, *]) rfl ⟨rfl,by refine Chg.setCell (Chg.setCell (Chg.setCell (Chg.setCell (Chg.setCell HA.out ?_ _) ?_ _) ?_ _) ?_ _) ?_ _<;>refine Or.inr ?_<;>simp⟩
theorem Tryz.infoByte:(Tryz.prog.info? 5).map (fun i=>(i.zero,i.size,i.bytes))=some (some (zb 0),1,1):=by kernel_rfl
theorem YT (w:World)(n:Nat)(h1:1≤n)(h2:n≤2048):
  Calls Tryz.prog 40 #[za n] w fun e w'=> ∃dv,e= .returned (.agg #[dv,.slice Option.none 0 0])∧zi w' w.heap.size 5 dv (List.replicate (n*64) 0)∧Chg 0 0 w w':=by
 obtain⟨i,hi,hz0,hz1,hz2⟩:=info_parts Tryz.infoByte;go_enter Tryz.func40,Tryz.ntmps40;go_wp2_with (at_make;refine wpList_make_full _ rfl _ _ 22 rfl w.heap.size 5 i (zb 0) 1 Tryz.underlying22 hi hz0 hz1 _ _ _ _ (n*64) rfl rfl (by omega) (by omega) (by rw[hz2];omega) (by unfold maxLen;omega) (by simp) ?_);intro w1 hown hgrow;have hb:w1.heap[w.heap.size]?=some (.cells #[.slice Option.none 0 0,.slice Option.none 0 0] 26 (0,0)):=
  (hgrow.block w.heap.size (by simp) (by simp)).trans (zh _ _)
 obtain⟨c0,c1,f0,f1⟩:=zn hb;have hch:Chg 0 0 w w1:=(Chg.alloc (Chg.refl 0 0 w) _).trans (Chg.ofGrown hgrow (by simp));have hO:zi w1 w.heap.size 5 (.slice (some (zd (w.heap.size+1))) (n*64) (n*64)) (List.replicate (n*64) 0):=by
  have:=hown;unfold zi;simpa [toList_madeCells_one] using this
 clear hown hgrow hb;go_wp2;refine bodyPost_ret (v:= .agg #[.slice (some (zd (w.heap.size+1))) (n*64) (n*64),.slice Option.none 0 0]) (by simp[results,Tryz.results40,go_sem,c0,c1]) rfl ⟨_,rfl,?_,?_⟩
 ·refine hO.chg (Chg.set2 _ _ _ _) ?_;intro g hg;cases hg;right;exact Nat.le_refl _
 ·exact hch.step (Chg.set2 _ _ _ _) (Or.inr (Or.inl (Nat.le_refl _)))
theorem YU (xs ys:List Int)(o k:Nat)(hk:k<ys.length)(ho:o+ys.length≤xs.length):
  ((splice xs o (ys.take k)).map (Value.int .u8)).set (o+k) (zb (ys.getD k 0))=(splice xs o (ys.take (k+1))).map (Value.int .u8):=by
 have e0:ys.getD k 0=ys[k]:=by simp[List.getD_eq_getElem?_getD,hk]
 rw[←List.map_set];congr 1;rw[e0];unfold splice;have h1:(xs.take o).length=o:=by rw[List.length_take];omega
 have h2:(ys.take k).length=k:=by rw[List.length_take];omega
 rw[h2,List.set_append,if_neg (by omega),h1,Nat.add_sub_cancel_left,List.set_append,if_neg (by omega),h2,Nat.sub_self];have hd:xs.drop (o+k)=xs[o+k]'(by omega)::xs.drop (o+k+1):=by rw[List.drop_eq_getElem_cons]
 have h3:(ys.take (k+1)).length=k+1:=by rw[List.length_take];omega
 rw[hd,List.set_cons_zero,h3,List.take_succ_eq_append_getElem hk,List.append_assoc];rfl
theorem Ef (w : World) {base lo hi g cap : Nat} {e : TypeId} {b : Value} (xs ys : List Int) (qn : Nat) (h1 : zi w base e (.slice (some (zd g)) xs.length cap) xs) (h2 : zr w lo hi .u8 b ys) (hy : ys.length = 64) (hq : qn * 64 + 64 ≤ xs.length) (hx : xs.length ≤ 1048576)
    (hdis : g < lo ∨ hi ≤ g) :
    Calls Tryz.prog 41 #[.slice (some (zd g)) xs.length cap, za qn, b] w fun r w' => r = .returned (.tuple #[]) ∧ zi w' base e (.slice (some (zd g)) xs.length cap) (splice xs (qn * 64) ys) ∧ Chg g (g + 1) w w' := by
  obtain ⟨bo, bcap, rfl, _, _, hb⟩ := h2
  obtain ⟨yb, yo, rfl, hl, hh, hyc⟩ : ∃ yb yo, bo = some ⟨yb, yo, none⟩ ∧ lo ≤ yb ∧ yb < hi ∧ ∀ i, i < ys.length → w.cell? ⟨yb, yo + i, none⟩ = some (zb (ys.getD i 0)) := by
    rcases hb with h | ⟨yb, yo, e, a, b, c⟩
    · rw [h] at hy; simp at hy
    · exact ⟨yb, yo, e, a, b, c⟩
  have hne : yb ≠ g := by omega
  have Hyc : Hid (∀ i, i < ys.length → w.cell? ⟨yb, yo + i, none⟩ = some (zb (ys.getD i 0))) := hyc
  have Hy : Hid (ys.length = 64) := hy
  have H1 : Hid (zi w base e (.slice (some (zd g)) xs.length cap) xs) := h1
  have e64 : Hid (∀ k, k ≤ 64 → (splice xs (qn * 64) (ys.take k)).length = xs.length) := by
    intro k hk
    exact length_splice _ _ _ (by rw [List.length_take]; omega)
  rw [hy]
  clear hb hyc hy h1
  go_enter Tryz.func41, Tryz.ntmps41
  go_wp2
  go_loopw [6] (fun i wr => ∃ k : Nat, k ≤ 64 ∧ i = za k ∧ zi wr base e (.slice (some (zd g)) xs.length cap) (splice xs (qn * 64) (ys.take k)) ∧ Chg g (g + 1) w wr) (fun i _ => 64 - (intOf i).toNat)
  case atStart => exact ⟨0, Nat.zero_le _, rfl, by have e : splice xs (qn * 64) (ys.take 0) = xs := by simp [splice]
                                                   rw [e]; exact H1.out, Chg.refl _ _ _⟩
  case round =>
    obtain ⟨k, hk, rfl, hown, hch⟩ := hrel
    have hl := e64.out k hk
    have hown' : wr.ownsRow base e 1 (.slice (some (zd g)) xs.length cap) xs.length ((splice xs (qn * 64) (ys.take k)).map (Value.int .u8)) := by
      have := hown; unfold zi at this; rw [hl] at this; exact this
    by_cases hlt : k < 64
    · have c1 : ∃ u, wr.cell? ⟨g, qn * 64 + k, none⟩ = some u := by
        have := World.ownsRow.cellAt hown' (qn * 64 + k) (by omega)
        rw [this]
        exact ⟨_, List.getElem?_eq_getElem (by rw [List.length_map, hl]; omega)⟩
      obtain ⟨u, c1⟩ := c1
      have f1 : wr.frozen? ⟨g, qn * 64 + k, none⟩ = false := World.ownsRow.frozenAt hown' (qn * 64 + k)
      have hyl := Hy.out
      have c2 := hch.cell (Hyc.out k (by omega)) (by omega)
      have hst := (World.ownsRow.stored hown' (qn * 64 + k) (zb (ys.getD k 0))).1
      rw [YU xs ys (qn * 64) k (by omega) (by omega)] at hst
      have hl2 := e64.out (k + 1) (by omega)
      have HR : Hid (zi (wr.setCell ⟨g, qn * 64 + k, none⟩ (zb (ys.getD k 0))) base e (.slice (some (zd g)) xs.length cap) (splice xs (qn * 64) (ys.take (k + 1)))) := by
        show zi _ _ _ _ _
        unfold zi; rw [hl2]; exact hst
      have HR2 : Hid (Chg g (g + 1) w (wr.setCell ⟨g, qn * 64 + k, none⟩ (zb (ys.getD k 0)))) := hch.setCell (Or.inl ⟨Nat.le_refl _, Nat.lt_succ_self _⟩) _
      generalize ys.getD k 0 = x at *
      have hik : (k : Int) < 64 := by omega
      have hi1 : (qn : Int) * 64 + (k : Int) < (xs.length : Int) := by omega
      have hi2 : ((qn : Int) * 64 + (k : Int)).toNat = qn * 64 + k := by omega
      clear hst hown hown' hl hl2 hch Hyc hyl Hy e64 H1
      go_wp2
      go_roundw
      case rel => exact ⟨k + 1, by omega, by go_num, HR.out, HR2.out⟩
      case measure => simp [intOf]; omega
    · obtain rfl : k = 64 := by omega
      have HR : Hid (zi wr base e (.slice (some (zd g)) xs.length cap) (splice xs (qn * 64) ys)) := by
        have := hown; rw [List.take_of_length_le (by rw [Hy.out]; exact Nat.le_refl _)] at this; exact this
      clear hown hown' hl
      go_wp2
      go_end0
      exact ⟨rfl, HR.out, hch⟩
theorem zi.slice_of {w:World}{base:Nat}{e:TypeId}{v:Value}{xs:List Int}(h:zi w base e v xs)(hx:0<xs.length): ∃g cap,v= .slice (some (zd g)) xs.length cap:=by
 rcases h.2 with⟨_,h0⟩|⟨g,cap,cur,e,_⟩
 ·omega
 ·exact⟨g,cap,e⟩
abbrev Uv (b l n:Int):Value:= .agg #[za b,za l,za n]
abbrev plV (a b c d e f g:Int):Value:= .agg #[za a,za b,za c,za d,za e,za f,za g]
def upN (a b:Nat):Nat:=(a+(b-1))/b
theorem ab4 (w:World)(a:Nat)(ha:a≤8192):Calls Tryz.prog 70 #[za a,za 512] w fun e w'=>e= .returned (za (upN a 512))∧w'=w:=by
 have HU:Hid (upN a 512=(a+511)/512):=rfl;go_enter Tryz.func70,Tryz.ntmps70;go_wp2;go_loopw [5] (fun x wr=>wr=w∧ ∃k:Nat,x=za k∧(k=0∨(k-1)*512<a)) (fun x _=>a-(intOf x).toNat*512)
 case atStart=>exact⟨rfl,0,rfl,Or.inl rfl⟩
 case round=>
  obtain⟨rfl,k,rfl,hk⟩:=hrel;by_cases hlt:k*512<a
  ·have h1:(k:Int)*512<(a:Int):=by omega
   go_wp2;go_roundw
   case rel=>exact⟨trivial,k+1,by go_num,Or.inr (by omega)⟩
   case measure=>simp[intOf];omega
  ·have h1: ¬(k:Int)*512<(a:Int):=by omega
   have h2:k≤17:=by omega
   have Hk:Hid (upN a 512=k):=by have:=HU.out;show _=_;omega
   clear hk;go_wp2;go_ret;exact⟨by rw[Hk.out];rfl,rfl⟩
theorem acU (w:World)(a:Nat)(ha:a≤8192):Calls Tryz.prog 70 #[za a,za 64] w fun e w'=>e= .returned (za (upN a 64))∧w'=w:=by
 have HU:Hid (upN a 64=(a+63)/64):=rfl;go_enter Tryz.func70,Tryz.ntmps70;go_wp2;go_loopw [5] (fun x wr=>wr=w∧ ∃k:Nat,x=za k∧(k=0∨(k-1)*64<a)) (fun x _=>a-(intOf x).toNat*64)
 case atStart=>exact⟨rfl,0,rfl,Or.inl rfl⟩
 case round=>
  obtain⟨rfl,k,rfl,hk⟩:=hrel;by_cases hlt:k*64<a
  ·have h1:(k:Int)*64<(a:Int):=by omega
   go_wp2;go_roundw
   case rel=>exact⟨trivial,k+1,by go_num,Or.inr (by omega)⟩
   case measure=>simp[intOf];omega
  ·have h1: ¬(k:Int)*64<(a:Int):=by omega
   have h2:k≤130:=by omega
   have Hk:Hid (upN a 64=k):=by have:=HU.out;show _=_;omega
   clear hk;go_wp2;go_ret;exact⟨by rw[Hk.out];rfl,rfl⟩
theorem ac1 {a b c d e f g a' b' c' d' e' f' g':Int}(h1:a=a')(h2:b=b')(h3:c=c')(h4:d=d')(h5:e=e')(h6:f=f')(h7:g=g'):plV a b c d e f g=plV a' b' c' d' e' f' g':=by
 subst h1 h2 h3 h4 h5 h6 h7;rfl
def jr (b l n:Nat):Nat:=3+l+upN b 512+upN (n*32) 64
def Xr (b l n:Nat):Value:=
 plV ((2+l:Nat):Int) ((3+l:Nat):Int) (upN b 512) ((3+l+upN b 512:Nat):Int) (upN (n*32) 64) (jr b l n) ((b:Int)-jr b l n)
theorem acH {a:Nat}(h:a≤8192):upN a 512≤16:=by unfold upN;omega
theorem adi {a:Nat}(h:a≤8192):upN a 64≤128:=by unfold upN;omega
theorem Ja (w:World)(b l n:Nat)(hb:b≤2048)(hl:l≤512)(hn:n≤256):Calls Tryz.prog 39 #[Uv b l n] w fun e w'=>e= .returned (Xr b l n)∧Chg 0 0 w w':=by
 have k1:=acH (a:=b) (by omega);have k2:=adi (a:=n*32) (by omega);obtain⟨mb,Hmb⟩: ∃m,Hid (upN b 512=m):=⟨_,rfl⟩;obtain⟨tb,Htb⟩: ∃m,Hid (upN (n*32) 64=m):=⟨_,rfl⟩;rw[Hmb.out] at k1;rw[Htb.out] at k2;go_enter Tryz.func39,Tryz.ntmps39;go_wp2_with fail;refine(ab4 _ b (by omega)).mono ?_;rintro e w1 ⟨rfl,rfl⟩;rw[Hmb.out];have hU:=fun w:World=>acU w (n*32) (by omega);rw[show((n*32:Nat):Int)=(n:Int)*32 by omega] at hU
 go_wp2_with fail;refine(hU _).mono ?_;rintro e w1 ⟨rfl,rfl⟩;rw[Htb.out];go_wp2;refine bodyPost_ret (v:=Xr b l n) (by simp[results,Tryz.results39,go_sem];unfold Xr jr;rw[Hmb.out,Htb.out];exact ac1 (by omega) (by omega) rfl (by omega) rfl (by omega) (by omega)) rfl ⟨rfl,?_⟩;exact((Chg.alloc (Chg.refl 0 0 w) _).alloc _).alloc _
theorem abU (w:World)(a b c d e f g:Int):(Instr.field 92 (.agg #[za a,za b,za c,za d,za e,za f,za g]) 6).run Tryz.prog w= .ok (za g) w:=by
 simp[Instr.field,run_underlying Tryz.underlying92,asAgg,part,isAgg,run_underlying Tryz.underlying2]
abbrev Z4 (b l n:Int):Prop:=16≤l∧l≤512∧1≤n∧n≤256∧1≤b∧b≤2048
def Jt (b l n:Int):Bool:=decide (Z4 b l n)&&decide (jr b.toNat l.toNat n.toNat<b.toNat)
theorem N4 {b l n:Nat}(h:Z4 b l n):Jt b l n=decide (jr b l n<b):=by unfold Jt;rw[decide_eq_true h];simp
theorem Ea {b l n:Int}(h: ¬Z4 b l n):Jt b l n=false:=by unfold Jt;rw[decide_eq_false h];simp
theorem Jf (w:World)(b l n:Nat)(h1:16≤l)(h2:l≤512)(h3:1≤n)(h4:n≤256)(h5:1≤b)(h6:b≤2048):
  Calls Tryz.prog 38 #[Uv b l n] w fun e w'=>e= .returned (.bool (decide (jr b l n<b)))∧Chg 0 0 w w':=by
 have e1: ¬((l:Int)<16):=by omega
 have e2: ¬(512<(l:Int)):=by omega
 have e3: ¬((n:Int)<1):=by omega
 have e4: ¬(256<(n:Int)):=by omega
 have e5: ¬((b:Int)<1):=by omega
 have e6: ¬(2048<(b:Int)):=by omega
 have HA:Hid (Chg 0 0 w (w.alloc (.cells #[za b,za l,za n] 57))):=Chg.alloc (Chg.refl 0 0 w) _;have hN:=Ja (w.alloc (.cells #[za b,za l,za n] 57)) b l n h6 h2 h4;obtain⟨c0,c1,c2,c3,c4,c5,HP⟩: ∃c0 c1 c2 c3 c4 c5,Hid (Xr b l n= .agg #[za c0,za c1,za c2,za c3,za c4,za c5,za ((b:Int)-jr b l n)]):=⟨_,_,_,_,_,_,rfl⟩;rw[HP.out] at hN;have hfd:=fun W=>abU W c0 c1 c2 c3 c4 c5 ((b:Int)-jr b l n);clear HP;obtain⟨D,HD⟩: ∃D,Hid (jr b l n=D):=⟨_,rfl⟩
 rw[HD.out] at hN hfd;go_enter Tryz.func38,Tryz.ntmps38;go_wp2_with fail;refine hN.mono ?_;rintro e w1 ⟨rfl,hc⟩;clear hN;have HC:Hid (Chg 0 0 w w1):=HA.out.trans hc;clear hc;by_cases hD:D<b
 ·have hd:(1:Int)≤(b:Int)-(D:Int):=by omega
  go_wp2;go_ret;exact⟨by rw[HD.out,decide_eq_true hD];rfl,HC.out⟩
 ·have hd: ¬(1:Int)≤(b:Int)-(D:Int):=by omega
  go_wp2;go_ret;exact⟨by rw[HD.out,decide_eq_false hD,←decide_eq_false (show¬(1:Int)≤(b:Int)-(D:Int) by omega)];rfl,HC.out⟩
theorem QU (w:World)(b l n:Int)(hx: ¬(16≤l∧l≤512∧1≤n∧n≤256∧1≤b∧b≤2048)):
  Calls Tryz.prog 38 #[Uv b l n] w fun e w'=>e= .returned (.bool false)∧Chg 0 0 w w':=by
 have HA:Hid (Chg 0 0 w (w.alloc (.cells #[za b,za l,za n] 57))):=Chg.alloc (Chg.refl 0 0 w) _;by_cases e1:l<16
 ·clear hx;go_enter Tryz.func38,Tryz.ntmps38;go_wp2;go_ret;exact⟨rfl,HA.out⟩
 by_cases e2:512<l
 ·clear hx;go_enter Tryz.func38,Tryz.ntmps38;go_wp2;go_ret;exact⟨rfl,HA.out⟩
 by_cases e3:n<1
 ·clear hx;go_enter Tryz.func38,Tryz.ntmps38;go_wp2;go_ret;exact⟨rfl,HA.out⟩
 by_cases e4:256<n
 ·clear hx;go_enter Tryz.func38,Tryz.ntmps38;go_wp2;go_ret;exact⟨rfl,HA.out⟩
 by_cases e5:b<1
 ·clear hx;go_enter Tryz.func38,Tryz.ntmps38;go_wp2;go_ret;exact⟨rfl,HA.out⟩
 have e6:2048<b:=by omega
 clear hx;go_enter Tryz.func38,Tryz.ntmps38;go_wp2;go_ret;exact⟨rfl,HA.out⟩
theorem jf (w:World)(b l n:Int):
  Calls Tryz.prog 38 #[Uv b l n] w fun e w'=>e= .returned (.bool (Jt b l n))∧Chg 0 0 w w':=by
 by_cases h:Z4 b l n
 ·obtain⟨h1,h2,h3,h4,h5,h6⟩:=id h;obtain⟨p,rfl⟩: ∃p:Nat,b=p:=⟨b.toNat,by omega⟩;obtain⟨q,rfl⟩: ∃q:Nat,l=q:=⟨l.toNat,by omega⟩;obtain⟨r,rfl⟩: ∃r:Nat,n=r:=⟨n.toNat,by omega⟩;rw[N4 h];exact Jf w p q r (by omega) (by omega) (by omega) (by omega) (by omega) (by omega)
 ·rw[Ea h];exact QU w b l n h
theorem adH {w:World}{s:Nat}{a b c:Value}{t:TypeId}(h:w.heap[s]?=some (.cells #[a,b,c] t (0,0))):
  w.cell? (zd s)=some a∧w.cell? ⟨s,1,none⟩=some b∧w.cell? ⟨s,2,none⟩=some c:=by
 simp[World.cell?,h]
def fsA (b l n:Int):List Int:= [102,115,121,115,1,0]++zk b 2++zk l 2++zk n 2++List.replicate 48 0
def fsL (b l n:Int):List Int:=fsA b l n++zk (jW (fsA b l n)) 4
def Qv (b l n:Int):List Int:=if Jt b l n=true then fsL b l n else []
theorem acR (b l n:Int):Byt (fsA b l n):=by
 intro x hx;unfold fsA at hx;simp only[List.mem_append] at hx;rcases hx with(((hx|hx)|hx)|hx)|hx
 ·simp at hx;omega
 ·exact qh _ _ x hx
 ·exact qh _ _ x hx
 ·exact qh _ _ x hx
 ·rw[List.eq_of_mem_replicate hx];omega
theorem abZ {b l n:Int}(h:Jt b l n=true):Z4 b l n:=by
 by_cases h':Z4 b l n
 ·exact h'
 ·rw[Ea h'] at h;cases h
theorem N2 {b l n:Int}(h:Z4 b l n):(fsA b l n).length=60:=by
 obtain⟨h1,h2,h3,h4,h5,h6⟩:=h;unfold fsA;simp[pn2 (v:=b) (by omega) (by omega),pn2 (v:=l) (by omega) (by omega),pn2 (v:=n) (by omega) (by omega)]
theorem N3 {b l n:Int}(h:Z4 b l n):(fsL b l n).length=64:=by
 obtain⟨h0,h1⟩:=qp (fsA b l n);unfold fsL;rw[List.length_append,N2 h,pn4 h0 h1]
theorem J4 (w:World)(b l n:Int):
  Calls Tryz.prog 42 #[Uv b l n] w fun e w'=> ∃v,e= .returned v∧zi w' w.heap.size 5 v (Qv b l n)∧Chg 0 0 w w':=by
 have C0:Chg 0 0 w (w.alloc (.cells #[za b,za l,za n] 57)):=Chg.alloc (Chg.refl 0 0 w) _;have B0:=zh w (.cells #[za b,za l,za n] 57);have s0:(w.alloc (.cells #[za b,za l,za n] 57)).heap.size=w.heap.size+1:=by simp
 have HB:Hid ((w.alloc (.cells #[za b,za l,za n] 57)).heap[w.heap.size]?=some (.cells #[za b,za l,za n] 57 (0,0))):=B0;have HC:Hid (Chg 0 0 w (w.alloc (.cells #[za b,za l,za n] 57))):=C0;have hN:=jf (w.alloc (.cells #[za b,za l,za n] 57)) b l n;clear C0 B0;go_enter Tryz.func42,Tryz.ntmps42;go_wp2_with fail;generalize w.alloc (.cells #[za b,za l,za n] 57)=w0 at*;refine hN.mono ?_;rintro e w1 ⟨rfl,h1⟩
 have HC1:Hid (Chg 0 0 w w1):=HC.out.trans h1;have HB1:Hid (w1.heap[w.heap.size]?=some (.cells #[za b,za l,za n] 57 (0,0))):=(h1.block _ (by omega) (by omega)).trans HB.out;have s1:=h1.size;clear h1 hN HB HC;by_cases hv:Jt b l n=true
 case neg=>
  have HE:Hid (Qv b l n= []):=by show _=_;unfold Qv;rw[if_neg hv]
  have HO:Hid (zi (w1.alloc (.cells #[] 5)) w.heap.size 5 (.slice (some (zd w1.heap.size)) 0 0) []):=zi.bnil w1 _ (by omega);have HCe:Hid (Chg 0 0 w (w1.alloc (.cells #[] 5))):=HC1.out.alloc _;rw[Bool.not_eq_true] at hv;rw[hv];clear hv;go_wp2;go_ret;exact⟨_,rfl,by rw[HE.out];exact HO.out,HCe.out⟩
 have HE:Hid (Qv b l n=fsL b l n):=by show _=_;unfold Qv;rw[if_pos hv]
 have hin:=abZ hv;have HL60:Hid ((fsA b l n).length=60):=N2 hin;have HBy:Hid (Byt (fsA b l n)):=acR b l n;obtain⟨g1,g2,g3,g4,g5,g6⟩:=hin;have Hb2:Hid ((zk b 2).length=2):=pn2 (by omega) (by omega);have Hl2:Hid ((zk l 2).length=2):=pn2 (by omega) (by omega);have Hn2:Hid ((zk n 2).length=2):=pn2 (by omega) (by omega);have HA:Hid (fsA b l n= [102,115,121,115,1,0]++zk b 2++zk l 2++zk n 2++List.replicate 48 0):=rfl
 have HF:Hid (fsL b l n=fsA b l n++zk (jW (fsA b l n)) 4):=rfl;have hrow:=World.ownsRow_lit (base:=w.heap.size) (e:=5) (size:=1) w1 #[zb 102,zb 115,zb 121,zb 115,zb 1,zb 0] 6 (by omega) (by unfold maxLen;omega) rfl;have HO2:Hid (zi (w1.alloc (.cells #[zb 102,zb 115,zb 121,zb 115,zb 1,zb 0] 5)) w.heap.size 5 (.slice (some (zd w1.heap.size)) 6 6) [102,115,121,115,1,0]):=by
  show zi _ _ _ _ _;unfold zi;simpa using hrow
 have Ca:Chg 0 0 w1 (w1.alloc (.cells #[zb 102,zb 115,zb 121,zb 115,zb 1,zb 0] 5)):=Chg.alloc (Chg.refl 0 0 w1) _;have s2:(w1.alloc (.cells #[zb 102,zb 115,zb 121,zb 115,zb 1,zb 0] 5)).heap.size=w1.heap.size+1:=by simp
 have HC2:Hid (Chg 0 0 w (w1.alloc (.cells #[zb 102,zb 115,zb 121,zb 115,zb 1,zb 0] 5))):=HC1.out.trans Ca;have HB2:Hid ((w1.alloc (.cells #[zb 102,zb 115,zb 121,zb 115,zb 1,zb 0] 5)).heap[w.heap.size]?=some (.cells #[za b,za l,za n] 57 (0,0))):=(Ca.block _ (by omega) (by omega)).trans HB1.out;obtain⟨k0,k1,k2⟩:=adH HB2.out;rw[hv];clear hv hrow Ca HB1 HC1;go_wp2_with fail;clear k0 k1 k2;generalize w1.alloc (.cells #[zb 102,zb 115,zb 121,zb 115,zb 1,zb 0] 5)=w2 at*
 obtain⟨x2,Hx2⟩: ∃x:List Int,Hid (x= [102,115,121,115,1,0]):=⟨_,rfl⟩;have Hy2:Hid (x2.length=6):=by show _=_;rw[Hx2.out];rfl
 have HP2:Hid (zi w2 w.heap.size 5 (.slice (some (zd w1.heap.size)) 6 6) x2):=by rw[Hx2.out];exact HO2.out
 have hbw:w.heap.size<w2.heap.size:=by omega
 clear HO2;have hN3:=zI w2 b 2 (by omega);refine hN3.mono ?_;rintro e w3 ⟨v3,rfl,o3,h3⟩;have s3:=h3.size;have v3':=o3.seen (by rw[Hb2.out];omega);obtain⟨g3,c3,rfl⟩:=o3.some_of (by rw[Hb2.out];omega);rw[Hb2.out] at v3';have u3:=(HP2.out.seen (by rw[Hy2.out];omega)).chg h3 (by omega);have HC3:Hid (Chg 0 0 w w3):=HC2.out.trans h3;have HB3:Hid _:=(h3.block _ (by omega) (by omega)).trans HB2.out;have hJ:=zX (xs:=x2) (ys:=zk b 2) w3 (by rw[Hy2.out];omega) (by rw[Hb2.out];omega) u3 v3'
 rw[Hb2.out];clear hN3 o3 h3 u3 v3' HC2 HB2;go_wp2_with fail;refine hJ.mono ?_;rintro e w4 ⟨v4,rfl,o4,h4⟩;have s4:=h4.size;obtain⟨x4,hx4⟩: ∃x:List Int,x=x2++zk b 2:=⟨_,rfl⟩;have Hx4:Hid _:=hx4;clear hx4;rw[←Hx4.out] at o4;have Hy4:Hid (x4.length=8):=by show _=_;rw[Hx4.out,List.length_append,Hy2.out,Hb2.out]
 have HC4:Hid _:=HC3.out.trans h4;have HB4:Hid _:=(h4.block _ (by omega) (by omega)).trans HB3.out;have HP4:Hid (zi w4 w.heap.size 5 v4 x4):=o4.base (fun g hg=>by have:=(o4.lt g hg).1;omega);obtain⟨g4,c4,rfl⟩:=o4.some_of (by rw[Hy4.out];omega);rw[Hy4.out] at HP4;rw[Hy4.out];clear hJ o4 h4 HC3 HB3 HP2;obtain⟨k0,k1,k2⟩:=adH HB4.out;go_wp2_with fail;clear k0 k1 k2;have hN5:=zI w4 l 2 (by omega);refine hN5.mono ?_
 rintro e w5 ⟨v5,rfl,o5,h5⟩;have s5:=h5.size;have v5':=o5.seen (by rw[Hl2.out];omega);obtain⟨g5,c5,rfl⟩:=o5.some_of (by rw[Hl2.out];omega);rw[Hl2.out] at v5';have u5:=(HP4.out.seen (by rw[Hy4.out];omega)).chg h5 (by omega);have HC5:Hid _:=HC4.out.trans h5;have HB5:Hid _:=(h5.block _ (by omega) (by omega)).trans HB4.out;have hJ:=zX (xs:=x4) (ys:=zk l 2) w5 (by rw[Hy4.out];omega) (by rw[Hl2.out];omega) u5 v5'
 rw[Hl2.out];clear hN5 o5 h5 u5 v5' HC4 HB4;go_wp2_with fail;refine hJ.mono ?_;rintro e w6 ⟨v6,rfl,o6,h6⟩;have s6:=h6.size;obtain⟨x6,hx6⟩: ∃x:List Int,x=x4++zk l 2:=⟨_,rfl⟩;have Hx6:Hid _:=hx6;clear hx6;rw[←Hx6.out] at o6;have Hy6:Hid (x6.length=10):=by show _=_;rw[Hx6.out,List.length_append,Hy4.out,Hl2.out]
 have HC6:Hid _:=HC5.out.trans h6;have HB6:Hid _:=(h6.block _ (by omega) (by omega)).trans HB5.out;have HP6:Hid (zi w6 w.heap.size 5 v6 x6):=o6.base (fun g hg=>by have:=(o6.lt g hg).1;omega);obtain⟨g6,c6,rfl⟩:=o6.some_of (by rw[Hy6.out];omega);rw[Hy6.out] at HP6;rw[Hy6.out];clear hJ o6 h6 HC5 HB5 HP4;obtain⟨k0,k1,k2⟩:=adH HB6.out;go_wp2_with fail;clear k0 k1 k2;have hN7:=zI w6 n 2 (by omega);refine hN7.mono ?_
 rintro e w7 ⟨v7,rfl,o7,h7⟩;have s7:=h7.size;have v7':=o7.seen (by rw[Hn2.out];omega);obtain⟨g7,c7,rfl⟩:=o7.some_of (by rw[Hn2.out];omega);rw[Hn2.out] at v7';have u7:=(HP6.out.seen (by rw[Hy6.out];omega)).chg h7 (by omega);have HC7:Hid _:=HC6.out.trans h7;have HB7:Hid _:=(h7.block _ (by omega) (by omega)).trans HB6.out;have hJ:=zX (xs:=x6) (ys:=zk n 2) w7 (by rw[Hy6.out];omega) (by rw[Hn2.out];omega) u7 v7'
 rw[Hn2.out];clear hN7 o7 h7 u7 v7' HC6 HB6;go_wp2_with fail;refine hJ.mono ?_;rintro e w8 ⟨v8,rfl,o8,h8⟩;have s8:=h8.size;obtain⟨x8,hx8⟩: ∃x:List Int,x=x6++zk n 2:=⟨_,rfl⟩;have Hx8:Hid _:=hx8;clear hx8;rw[←Hx8.out] at o8;have Hy8:Hid (x8.length=12):=by show _=_;rw[Hx8.out,List.length_append,Hy6.out,Hn2.out]
 have HC8:Hid _:=HC7.out.trans h8;have HB8:Hid _:=(h8.block _ (by omega) (by omega)).trans HB7.out;have HP8:Hid (zi w8 w.heap.size 5 v8 x8):=o8.base (fun g hg=>by have:=(o8.lt g hg).1;omega);obtain⟨g8,c8,rfl⟩:=o8.some_of (by rw[Hy8.out];omega);rw[Hy8.out] at HP8;rw[Hy8.out];clear hJ o8 h8 HC7 HB7 HP6;go_wp2_with fail;have Hz:Hid ((List.replicate 48 (0:Int)).length=48):=by show _=_;rw[List.length_replicate]
 have hN9:=qM w8 48 (by omega);refine hN9.mono ?_;rintro e w9 ⟨gz,rfl,o9,h9⟩;have s9:=h9.size;have v9':=o9.seen (by rw[Hz.out];omega);have u9:=(HP8.out.seen (by rw[Hy8.out];omega)).chg h9 (by omega);have HC9:Hid _:=HC8.out.trans h9;have HB9:Hid _:=(h9.block _ (by omega) (by omega)).trans HB8.out;have hJ:=zX (xs:=x8) (ys:=(List.replicate 48 0)) w9 (by rw[Hy8.out];omega) (by rw[Hz.out];omega) u9 v9'
 clear hN9 o9 h9 u9 v9' HC8 HB8;go_wp2_with fail;refine hJ.mono ?_;rintro e w10 ⟨v10,rfl,o10,h10⟩;have s10:=h10.size;obtain⟨x10,hx10⟩: ∃x:List Int,x=x8++(List.replicate 48 0):=⟨_,rfl⟩;have Hx10:Hid _:=hx10;clear hx10;rw[←Hx10.out] at o10;have Hy10:Hid (x10.length=60):=by show _=_;rw[Hx10.out,List.length_append,Hy8.out,Hz.out]
 have HC10:Hid _:=HC9.out.trans h10;have HB10:Hid _:=(h10.block _ (by omega) (by omega)).trans HB9.out;have HP10:Hid (zi w10 w.heap.size 5 v10 x10):=o10.base (fun g hg=>by have:=(o10.lt g hg).1;omega);obtain⟨g10,c10,rfl⟩:=o10.some_of (by rw[Hy10.out];omega);rw[Hy10.out] at HP10;rw[Hy10.out];clear hJ o10 h10 HC9 HB9 HP8;have HXA:Hid (x10=fsA b l n):=by show _=_;rw[HA.out,Hx10.out,Hx8.out,Hx6.out,Hx4.out,Hx2.out]
 have HY:Hid (Byt x10):=by rw[HXA.out];exact HBy.out
 obtain⟨hc0,hc1⟩:=qp x10;have Hc4:Hid _:=pn4 hc0 hc1;have hN:=Qi w10 HY.out (HP10.out.seen (by rw[Hy10.out];omega));have HE2:Hid (Qv b l n=x10++zk (jW x10) 4):=by show _=_;rw[HE.out,HF.out,HXA.out]
 clear HXA HY;generalize jW x10=cv at*;go_wp2_with fail;refine hN.mono ?_;rintro e wq ⟨rfl,hq⟩;subst wq;clear hN;go_wp2_with fail;have hN11:=zI w10 cv 4 (by omega);refine hN11.mono ?_;rintro e w11 ⟨v11,rfl,o11,h11⟩;have s11:=h11.size;have v11':=o11.seen (by rw[Hc4.out];omega);obtain⟨g11,c11,rfl⟩:=o11.some_of (by rw[Hc4.out];omega);rw[Hc4.out] at v11';have u11:=(HP10.out.seen (by rw[Hy10.out];omega)).chg h11 (by omega)
 have HC11:Hid _:=HC10.out.trans h11;have HB11:Hid _:=(h11.block _ (by omega) (by omega)).trans HB10.out;have hJ:=zX (xs:=x10) (ys:=zk cv 4) w11 (by rw[Hy10.out];omega) (by rw[Hc4.out];omega) u11 v11';rw[Hc4.out];clear hN11 o11 h11 u11 v11' HC10 HB10;go_wp2_with fail;refine hJ.mono ?_;rintro e w12 ⟨v12,rfl,o12,h12⟩;have s12:=h12.size;obtain⟨x12,hx12⟩: ∃x:List Int,x=x10++zk cv 4:=⟨_,rfl⟩;have Hx12:Hid _:=hx12
 clear hx12;rw[←Hx12.out] at o12;have Hy12:Hid (x12.length=64):=by show _=_;rw[Hx12.out,List.length_append,Hy10.out,Hc4.out]
 have HC12:Hid _:=HC11.out.trans h12;have HB12:Hid _:=(h12.block _ (by omega) (by omega)).trans HB11.out;have HP12:Hid (zi w12 w.heap.size 5 v12 x12):=o12.base (fun g hg=>by have:=(o12.lt g hg).1;omega);obtain⟨g12,c12,rfl⟩:=o12.some_of (by rw[Hy12.out];omega);rw[Hy12.out] at HP12;rw[Hy12.out];clear hJ o12 h12 HC11 HB11 HP10;have HR:Hid (zi w12 w.heap.size 5 (.slice (some (zd g12)) 64 c12) (Qv b l n)):=by rw[HE2.out,←Hx12.out];exact HP12.out
 clear HP12;go_wp2;go_ret;exact⟨_,rfl,HR.out,HC12.out⟩
def EX (xs:List Int) (m:Nat):Bool:=decide ((xs.getD (m/8) 0).toNat/2^ (m % 8) % 2=1)
abbrev Jy (xs:List Int) (i:Int):Prop:=xs.length≤2048∧0≤i∧i<8*(xs.length:Int)
def aay (xs:List Int) (i:Int):Bool:=decide (Jy xs i)&&EX xs i.toNat
theorem NX {xs:List Int}{m:Nat}(h:Jy xs m):aay xs m=EX xs m:=by unfold aay;rw[decide_eq_true h];simp
theorem abC {xs:List Int}{i:Int}(h: ¬Jy xs i):aay xs i=false:=by unfold aay;rw[decide_eq_false h];simp
theorem YR (w:World)(xs:List Int)(m:Nat)(b off cap:Nat)(hB:Byt xs)(hl:xs.length≤2048)(hm:m<8*xs.length)
  (h1: ∀i,i<xs.length→w.cell? ⟨b,off+i,none⟩=some (zb (xs.getD i 0))):
  Calls Tryz.prog 75 #[.slice (some ⟨b,off,none⟩) xs.length cap,za m] w fun e w'=>e= .returned (.bool (EX xs m))∧w'=w:=by
 have c1:=h1 (m/8) (by omega);have hb:=hB.getD (m/8);have Hfin:Hid (∀y:Nat,xs.getD (m/8) 0=y→EX xs m=decide (y/2^ (m % 8) % 2=1)):=by intro y hy;unfold EX;rw[hy];rfl
 obtain⟨y,hy⟩: ∃y:Nat,xs.getD (m/8) 0=y:=⟨(xs.getD (m/8) 0).toNat,by omega⟩;have HF:Hid (EX xs m=decide (y/2^ (m % 8) % 2=1)):=Hfin.out y hy;rw[hy] at c1 hb;have hq:((m/8:Nat):Int)<(xs.length:Int):=by omega
 have e1: ¬(2048:Int)<(xs.length:Int):=by omega
 have e2: ¬((m:Int))<0:=by omega
 have e3: ¬8*(xs.length:Int)≤(m:Int):=by omega
 have hr:m % 8<8:=by omega
 clear h1 hy Hfin hB;go_enter Tryz.func75,Tryz.ntmps75;go_wp2;obtain⟨r,Hr⟩: ∃r:Nat,Hid (m % 8=r):=⟨_,rfl⟩;have hmr:((m:Int) % 8)=(r:Int):=by have:=Hr.out;omega
 rw[hmr];rw[Hr.out] at HF hr;clear hmr;go_loopw [5,6] (fun v k wr=>wr=w∧ ∃j:Nat,j≤r∧k=za ((r-j:Nat):Int)∧v=zb ((y/2^j:Nat):Int)) (fun _ k _=>(intOf k).toNat)
 case atStart=>exact⟨rfl,0,Nat.zero_le _,by simp,by simp⟩
 case round=>
  obtain⟨rfl,j,hj,rfl,rfl⟩:=hrel;have hy2:y/2^j<256:=Nat.lt_of_le_of_lt (Nat.div_le_self _ _) (by omega);have hs:y/2^j/2=y/2^ (j+1):=by rw[Nat.div_div_eq_div_mul,Nat.pow_succ]
  by_cases hlt:j<r
  ·have hp:(0:Int)<((r-j:Nat):Int):=by omega
   have Hs:Hid (y/2^j/2=y/2^ (j+1)):=hs;clear hs;generalize y/2^j=z at*;generalize hrj:r-j=d at*;have Hd:Hid (r-j=d):=hrj;have hdb:d≤8:=by omega
   clear hrj;go_wp2;go_roundw
   case rel=>exact⟨trivial,j+1,by omega,by have:=Hd.out;congr 1;omega,by rw[←Hs.out];go_num⟩
   case measure=>simp[intOf];omega
  ·obtain rfl:j=r:=by omega
   rw[Nat.sub_self] at*;clear hs;generalize y/2^j=z at*;by_cases hz:z % 2=1
   ·have hz1:((z:Int) % 2==1)=true:=by simp;omega
    rw[decide_eq_true hz] at HF;clear hz;go_wp2;go_ret;exact⟨by rw[HF.out];rfl,rfl⟩
   ·have hz1:((z:Int) % 2==1)=false:=by simp;omega
    rw[decide_eq_false hz] at HF;clear hz;go_wp2;go_ret;exact⟨by rw[HF.out];rfl,rfl⟩
theorem KU (w:World)(n:Nat)(ao:Option Addr)(cap:Nat)(i:Int)(hl:n≤1048576)(ho: ¬(n≤2048∧0≤i∧i<8*(n:Int))):
  Calls Tryz.prog 75 #[.slice ao n cap,za i] w fun e w'=>e= .returned (.bool false)∧w'=w:=by
 by_cases h0:n≤2048
 ·by_cases h1:i<0
  ·go_enter Tryz.func75,Tryz.ntmps75;go_wp2;go_ret;exact⟨rfl,rfl⟩
  ·have h2:8*(n:Int)≤i:=by omega
   clear ho;go_enter Tryz.func75,Tryz.ntmps75;go_wp2;go_ret;exact⟨rfl,rfl⟩
 ·have h1:(2048:Int)<(n:Int):=by omega
  clear ho;go_enter Tryz.func75,Tryz.ntmps75;go_wp2;go_ret;exact⟨rfl,rfl⟩
theorem XT (w:World){lo hi:Nat}{a:Value}{xs:List Int}(i:Int)(hB:Byt xs)(hl:xs.length≤1048576)(h1:zr w lo hi .u8 a xs):
  Calls Tryz.prog 75 #[a,za i] w fun e w'=>e= .returned (.bool (aay xs i))∧w'=w:=by
 obtain⟨ao,cap,rfl,_,_,h1⟩:=h1;by_cases ho:Jy xs i
 ·obtain⟨m,rfl⟩: ∃m:Nat,i=m:=⟨i.toNat,by have:=ho.2.1;omega⟩;rw[NX ho];have h3:=ho.2.2;rcases h1 with rfl|⟨x,off,rfl,_,_,h1⟩
  ·simp at h3;omega
  ·exact YR w xs m x off cap hB ho.1 (by omega) h1
 ·rw[abC ho];exact KU w xs.length ao cap i hl ho
end Go.Proofs.YtacjklochmelfaaGreatDoor
