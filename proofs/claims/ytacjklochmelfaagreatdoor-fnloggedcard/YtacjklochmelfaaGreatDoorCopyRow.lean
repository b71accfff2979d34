import Derived.Test.YtacjklochmelfaaGreatDoorCells2
import Derived.Test.YtacjklochmelfaaGreatDoorRowZ
import Derived.Test.YtacjklochmelfaaGreatDoorHead
import Derived.Test.YtacjklochmelfaaGreatDoorHeld
import Derived.Deep.RegionWith
import Derived.Deep.DeepCutAuto
import Derived.Lib.Bytes
import Derived.Test.YtacjklochmelfaaGreatDoorRows
import Derived.Stop.BytesEq
import Derived.Deep.RegionHeld3
import Derived.Laws.CopyOwn
namespace Go.Proofs.YtacjklochmelfaaGreatDoor
open Go.RowKit
set_option maxRecDepth 100000
set_option maxHeartbeats 16000000
def mg:List Int:= [106,108,111,103]
theorem Ul:Byt mg:=by intro x hx;simp[mg] at hx;omega
structure jl (w:World)(tL tM tK:TypeId)(vL vM vK:Value):Prop where
 eL:w.cell? (zd 4)=some (.iface tL vL)
 eM:w.cell? (zd 5)=some (.iface tM vM)
 eK:w.cell? (zd 1)=some (.iface tK vK)
 m0:w.cell? (zd 0)=some (zb 106)
 m1:w.cell? ⟨0,1,none⟩=some (zb 108)
 m2:w.cell? ⟨0,2,none⟩=some (zb 111)
 m3:w.cell? ⟨0,3,none⟩=some (zb 103)
theorem jl.chg {w w':World}{tL tM tK:TypeId}{vL vM vK:Value}{lo hi:Nat}(h:jl w tL tM tK vL vM vK)(c:Chg lo hi w w')(hlo:hi≤lo∨8≤lo):jl w' tL tM tK vL vM vK:=
 ⟨c.cell h.eL (by omega),c.cell h.eM (by omega),c.cell h.eK (by omega),c.cell h.m0 (by omega),c.cell h.m1 (by omega),c.cell h.m2 (by omega),c.cell h.m3 (by omega)⟩
def abz (w:World) (lo:Nat) (ev:Value) (t:TypeId) (v:Value):Prop:= ∃b k,lo≤b∧ev= .iface 228 (.pointer (some (zd b)))∧YX w b k (.iface t v)
theorem Zz {P:Program}{fn:Func}{p1 p2 p3:Tmp}{t1 t2:TypeId}{w:World}{tmps:Array Value}{a1 a2:Addr}{v1 v2 v3:Value}(h:fn.results= #[.cell p1 t1,.cell p2 t2,.tmp p3])(h1:tmps.getD p1 undef= .pointer (some a1))(h2:tmps.getD p2 undef= .pointer (some a2))(h3:tmps.getD p3 undef=v3)
  (hl1:(loadVar t1 a1).run P w= .ok v1 w) (hl2:(loadVar t2 a2).run P w= .ok v2 w):(results fn tmps).run P w= .ok (.tuple #[v1,v2,v3]) w:=by
 have h1':tmps[p1]?.getD undef= .pointer (some a1):=by simpa using h1
 have h2':tmps[p2]?.getD undef= .pointer (some a2):=by simpa using h2
 have h3':tmps[p3]?.getD undef=v3:=by simpa using h3
 simp only[results,h];simp[asAddr,h1',h2',h3',hl1,hl2]
abbrev z7:List Value:= [zb 0,zb 0,zb 0,zb 0,za 0,za 0,za 0]
theorem YP (w:World){lo hi:Nat}{a:Value}{xs:List Int}{tL tM tK:TypeId}{vL vM vK:Value}(h1:zr w lo hi .u8 a xs)(hG:jl w tL tM tK vL vM vK)(hx:xs.length≠64):
  Calls Tryz.prog 145 #[a] w fun e w'=> ∃ev,e= .returned (.tuple #[.agg Z64.toArray,.agg z7.toArray,ev])∧abz w' w.heap.size ev tL vL∧Chg 0 0 w w':=by
 obtain⟨ao,cap,rfl,hl,_,_⟩:=h1;have hne:((xs.length:Int) !=64)=true:=by simp;omega
 clear hx;go_enter Tryz.func145,Tryz.ntmps145;go_upto_region 1 with fail;simp only[zM];obtain⟨z1,z2,z3⟩:=zN w (.cells Z64.toArray 72) (.cells z7.toArray 138);have hA:Chg 0 0 w ((w.alloc (.cells Z64.toArray 72)).alloc (.cells z7.toArray 138)):=(Chg.alloc (Chg.refl 0 0 w) _).alloc _;generalize (w.alloc (.cells Z64.toArray 72)).alloc (.cells z7.toArray 138)=wa at*;have eL:=(hG.chg hA (by omega)).eL;clear hG
 go_wp2_with fail;simp only[zM];refine(Qe _ 0 tL vL).mono ?_;rintro e w1 ⟨rfl,hF,hC⟩;have s1:=hC.size;have B0:=(hC.block w.heap.size (by omega) (by omega)).trans z2;have B1:=(hC.block (w.heap.size+1) (by omega) (by omega)).trans z3;have HB0:Hid (w1.heap[w.heap.size]?=some (.cells Z64.toArray 72 (0,0))):=B0;have HB1:Hid (w1.heap[w.heap.size+1]?=some (.cells z7.toArray 138 (0,0))):=B1;have HC:Hid (Chg 0 0 w w1):=hA.trans hC
 have HF:Hid (YX w1 wa.heap.size 0 (.iface tL vL)):=hF;clear hC hA hF z2 z3 B0 B1;have hi28:(Tryz.prog.info? 72).map (·.size)=some Z64.length:=by rw[zD];kernel_rfl
 go_wp2_with (first
  |(refine wpList_store_row rfl 72 (.tmp 2) (.tmp 10) rfl rfl w.heap.size rfl Z64 Z64 72 rfl HB0.out rfl hi28 NW ?_;intro w2 hb2 hc2)
  |(refine wpList_store_row rfl 138 (.tmp 3) (.tmp 11) rfl rfl (w.heap.size+1) rfl z7 z7 138 rfl ((hc2.block (w.heap.size+1) (by omega) (by omega)).trans HB1.out) rfl (by kernel_rfl) (by simp[Value.oneCell']) ?_;intro w3 hb3 hc3))
 have s2:=hc2.size;have s3:=hc3.size;have hl1:(loadVar 72 (zd w.heap.size)).run Tryz.prog w3= .ok (.agg Z64.toArray) w3:=run_loadVar_mid _ _ _ _ Z64 _ (zj ((hc3.block w.heap.size (by omega) (by omega)).trans hb2)) Tryz.underlying72 rfl hi28;have hl2:(loadVar 138 (zd (w.heap.size+1))).run Tryz.prog w3= .ok (.agg z7.toArray) w3:=run_loadVar_mid _ _ _ _ z7 _ (zj hb3) Tryz.underlying138 rfl (by kernel_rfl)
 have cz:Chg w.heap.size (w.heap.size+2) w1 w3:=(hc2.widen (by omega) (by omega)).trans (hc3.widen (by omega) (by omega));refine bodyPost_ret (v:= .tuple #[.agg Z64.toArray,.agg z7.toArray,.iface 228 (.pointer (some (zd (w.heap.size+2))))]) (Zz Tryz.results145 rfl rfl rfl hl1 hl2) rfl ⟨_,rfl,⟨w.heap.size+2,0,by omega,rfl,?_⟩,HC.out.step cz (by omega)⟩;have hF:=HF.out;rw[z1] at hF;exact(cz.block _ (gLt hF) (by omega)).trans hF
theorem aaj {xs ys:List Int}(hx:Byt xs)(hy:Byt ys)(h1:(xs.map fun n=>UInt8.ofNat n.toNat)=ys.map fun n=>UInt8.ofNat n.toNat):xs=ys:=by
 induction xs generalizing ys with
 |nil=>cases ys with
  |nil=>rfl
  |cons y r=>simp at h1
 |cons x r ih=>
  cases ys with
  |nil=>simp at h1
  |cons y s=>
   simp only[List.map_cons,List.cons.injEq] at h1;have hx0:=hx x (by simp);have hy0:=hy y (by simp);have e:x=y:=by
    have:=congrArg UInt8.toNat h1.1;simp only[UInt8.toNat_ofNat'] at this;omega
   rw[e,ih (fun a ha=>hx a (by simp[ha])) (fun a ha=>hy a (by simp[ha])) h1.2]
theorem adc {xs ys:List Int}(hx:Byt xs)(hy:Byt ys):((strOfNums xs).toList==(strOfNums ys).toList)=decide (xs=ys):=by
 rw[Go.Lib.strOfNums_toList,Go.Lib.strOfNums_toList];by_cases h:xs=ys
 ·subst h;rw[decide_eq_true rfl];exact beq_self_eq_true _
 ·rw[decide_eq_false h,beq_eq_false_iff_ne];exact fun e=>h (aaj hx hy e)
theorem VI {xs:List Int}(h:Byt xs):(xs.map fun n=>UInt8.ofNat n.toNat).map Extern.Stop.cell=xs.map (Value.int .u8):=by
 rw[List.map_map];refine List.map_congr_left fun x hx=>?_;have:=h x hx;have e:((UInt8.ofNat x.toNat).toNat:Int)=x:=by rw[UInt8.toNat_ofNat'];omega
 show Value.int .u8 ((UInt8.ofNat x.toNat).toNat:Int)=_;rw[e]
theorem qW (w:World)(t:TypeId)(n:Nat)(ht:Tryz.prog.underlying t=some (.array n 5)){xs ys:List Int}(hx:Byt xs)(hy:Byt ys)(lx:xs.length=n)(ly:ys.length=n):
  (Op.equalIn 10000 t (.agg (xs.map (Value.int .u8)).toArray) (.agg (ys.map (Value.int .u8)).toArray)).run Tryz.prog w= .ok (decide (xs=ys)) w:=by
 have h:=run_equalIn_bytes (P:=Tryz.prog) w 9998 t 5 n ht Tryz.underlying5 (fun w=>by kernel_rfl) (xs.map fun n=>UInt8.ofNat n.toNat) (ys.map fun n=>UInt8.ofNat n.toNat) (by simpa using lx) (by simpa using ly);rw[VI hx,VI hy] at h;have hb:((xs.map fun n=>UInt8.ofNat n.toNat)==ys.map fun n=>UInt8.ofNat n.toNat)=decide (xs=ys):=by
  by_cases e:xs=ys
  ·subst e;rw[decide_eq_true rfl];exact beq_self_eq_true _
  ·rw[decide_eq_false e,beq_eq_false_iff_ne];exact fun h'=>e (aaj hx hy h')
 rw[h,hb]
theorem EW (w:World)(a:Addr)(cap:Nat):(Instr.arrayAt 72 (.slice (some a) 64 cap)).run Tryz.prog w= .ok (.pointer (some a)) w:=by
 simp[Instr.arrayAt,run_underlying Tryz.underlying72]
def NS (xs:List Int) (w':World) (lo:Nat) (tM tK:TypeId) (vM vK:Value) (ev:Value):Prop:=
 (xs.take 4≠mg∧abz w' lo ev tM vM)∨(xs.take 4=mg∧ ¬(1≤xs.getD 4 0∧xs.getD 4 0≤4)∧abz w' lo ev tK vK)∨(xs.take 4=mg∧(1≤xs.getD 4 0∧xs.getD 4 0≤4)∧ev= .nilIface)
theorem Jc (w:World){lo hi:Nat}{a:Value}{xs:List Int}{tL tM tK:TypeId}{vL vM vK:Value}(h1:zr w lo hi .u8 a xs)(hB:Byt xs)(hG:jl w tL tM tK vL vM vK)(hx:xs.length=64):
  Calls Tryz.prog 145 #[a] w fun e w'=> ∃ev,e= .returned (.tuple #[.agg (xs.map (Value.int .u8)).toArray,.agg (hd7 xs),ev])∧Chg 0 0 w w'∧NS xs w' w.heap.size tM tK vM vK ev:=by
 obtain⟨ao,cap,rfl,hl,⟨hcap,_⟩,hcell⟩:=h1;obtain⟨xb,xo,rfl,hxc⟩: ∃xb xo,ao=some ⟨xb,xo,none⟩∧ ∀i,i<xs.length→w.cell? ⟨xb,xo+i,none⟩=some (zb (xs.getD i 0)):=by
  rcases hcell with e|⟨x,o,e,_,_,h⟩
  ·rw[e] at hx;simp at hx
  ·exact⟨x,o,e,h⟩
 obtain⟨cs,hcs⟩: ∃cs,cs=xs.map (Value.int .u8):=⟨_,rfl⟩;have L1:cs.length=64:=by rw[hcs];simpa using hx
 have L2: ∀v∈cs,v.oneCell'=true:=by rw[hcs];exact ints_oneCell _ _
 have R0:w.rangeAt xb xo cs:=by
  intro j v hj;have hj64:j<xs.length:=by have:=(List.getElem?_eq_some_iff.1 hj).1;omega
  rw[hxc j hj64,←hj,hcs,List.getElem?_map];simp only[List.getD_eq_getElem?_getD];rw[List.getElem?_eq_getElem hj64];rfl
 have HL1:Hid _:=L1;have HL2:Hid _:=L2;have Hcs:Hid _:=hcs;have Hx:Hid _:=hx;have HB:Hid (Byt xs):=hB;have hi28:(Tryz.prog.info? 72).map (·.size)=some cs.length:=by rw[L1];kernel_rfl
 have u28:=Tryz.underlying72;have hne:((64:Int) !=64)=false:=by simp
 rw[←hcs,hx];rw[hx] at hcap;obtain⟨z1,z2,z3⟩:=zN w (.cells Z64.toArray 72) (.cells z7.toArray 138);have hA:Chg 0 0 w ((w.alloc (.cells Z64.toArray 72)).alloc (.cells z7.toArray 138)):=(Chg.alloc (Chg.refl 0 0 w) _).alloc _;have hgl:5<w.heap.size∧1<w.heap.size:=⟨zF hG.eM,zF hG.eK⟩;clear hcell hxc L1 L2 hcs hx hB;go_enter Tryz.func145,Tryz.ntmps145;go_upto_region 1 with fail;simp only[zM];have har:=fun w'=>EW w' ⟨xb,xo,none⟩ cap
 generalize (w.alloc (.cells Z64.toArray 72)).alloc (.cells z7.toArray 138)=wa at*;have HG:Hid _:=hG.chg hA (by omega);have HR:Hid (wa.rangeAt xb xo cs):=fun j v hj=>hA.cell (R0 j v hj) (by omega);have Hz2:Hid _:=z2;have Hz3:Hid _:=z3;have HA:Hid _:=hA;clear z2 z3 hA R0 hG;go_upto_region 4 with(first
  |(refine wpList_load_mid rfl 72 (.tmp 15) rfl xb xo rfl cs _ HR.out u28 rfl hi28 ?_)
  |(refine wpList_store_row rfl 72 (.tmp 5) (.tmp 16) rfl rfl (w.heap.size+2) rfl cs Z64 72 rfl (by rw[←z1,←zM];exact zh _ _) (by rw[zD];exact HL1.out) hi28 HL2.out ?_;intro w2 hb2 hc2))
 have c2:Chg 0 0 wa w2:=(Chg.alloc (Chg.refl 0 0 wa) _).step hc2 (by omega);have s2:=c2.size;have s2':=(gLt hb2);have hN:=ZZ w2 xs Hx.out HB.out;rw[←Hcs.out] at hN;have HR2:Hid _:=zj hb2;have HC2:Hid _:=c2;have Hb2:Hid _:=hb2;obtain⟨h0,h1,h2,h3,h4,h5,h6,e7,x4⟩: ∃h0 h1 h2 h3 h4 h5 h6:Int,hd7 xs= #[zb h0,zb h1,zb h2,zb h3,za h4,za h5,za h6]∧xs.take 4= [h0,h1,h2,h3]∧xs.getD 4 0=h4:=by
  refine⟨_,_,_,_,_,_,_,rfl,?_,rfl⟩;have:=Hx.out
  match xs,this with
  |a::b::c::d::r,_=>simp
 obtain⟨hmg,x4⟩:=x4;have He7:Hid _:=e7;have Hmg:Hid _:=hmg;have Hx4:Hid _:=x4;rw[e7] at hN;clear hb2 hc2 c2 e7 hmg x4 HR har;go_upto_region 5 with(first
  |(refine wpList_load_mid rfl 72 (.tmp 5) rfl (w.heap.size+2) 0 rfl cs _ HR2.out u28 rfl hi28 ?_)
  |(refine hN.mono ?_;rintro e w3 ⟨rfl,hc3⟩)
  |(refine wpList_store_row rfl 138 (.tmp 6) (.tmp 18) rfl rfl w3.heap.size rfl [zb h0,zb h1,zb h2,zb h3,za h4,za h5,za h6] z7 138 rfl (zh _ _) rfl (by kernel_rfl) (by simp[Value.oneCell']) ?_;intro w4 hb4 hc4))
 have s3:=hc3.size;have s4:=(gLt hb4);have C4:Chg 0 0 w2 w4:=(hc3.trans (Chg.alloc (Chg.refl 0 0 w3) _)).step hc4 (by omega);have HC4:Hid _:=HC2.out.trans C4;have HH4:Hid _:=hb4;have HD4:Hid _:=(C4.block (w.heap.size+2) (by omega) (by omega)).trans Hb2.out;have HG4:Hid _:=HG.out.chg HC4.out (by omega);clear hb4 hc4 hc3 C4 HC2 Hb2 HR2 hN HG;go_cut [22] (fun s22 wx=>s22= .bool (!decide (xs.take 4=mg))∧Chg 0 0 w4 wx)
 case first=>
  have HS:Hid (_∧_):=⟨HH4.out,HG4.out.chg (Chg.drew (Chg.refl 0 0 w4)) (by omega)⟩;refine zp (fun w':World=>w'.heap[w3.heap.size]?=some (.cells (List.toArray [zb h0,zb h1,zb h2,zb h3,za h4,za h5,za h6]) 138 (0,0))∧jl w' tL tM tK vL vM vK) (by kernel_rfl) ?_;refine zv 0 (.agg (List.toArray [zb h0,zb h1,zb h2,zb h3,za h4,za h5,za h6])) rfl (by kernel_rfl) (by kernel_rfl) (by kernel_rfl) (fun _ _ _ h=>h) (yieldsIf_load_mid (by kernel_rfl) 138 (.tmp 6) rfl w3.heap.size 0 rfl [zb h0,zb h1,zb h2,zb h3,za h4,za h5,za h6] _ (fun w' hw'=>zj hw'.1) Tryz.underlying138 rfl (by kernel_rfl)) HS.out ?_
  go_simp;refine hTk 2 (.agg #[zb 106,zb 108,zb 111,zb 103]) rfl (fun w' hw'=>by have m0:=hw'.2.m0;have m1:=hw'.2.m1;have m2:=hw'.2.m2;have m3:=hw'.2.m3;go_simp) HS.out ?_;go_simp;refine zg 1 rfl rfl (by kernel_rfl) ?_;refine zl 140 #[.agg (List.toArray [zb h0,zb h1,zb h2,zb h3,za h4,za h5,za h6])] (by first|kernel_rfl|go_simp) (Jb w4.drew h0 h1 h2 h3 h4 h5 h6) ?_;rintro e w5 ⟨rfl,hc5⟩;have HS5:Hid (_∧_):=⟨(hc5.block w3.heap.size (gLt HS.out.1) (by omega)).trans HS.out.1,HS.out.2.chg hc5 (by omega)⟩
  have HC5:Hid _:=(Chg.drew (Chg.refl 0 0 w4)).trans hc5;refine⟨_,rfl,HS5.out,?_⟩;clear hc5;go_simp;refine zg 3 rfl rfl (by kernel_rfl) ?_;have heq:=qW w5 136 4 Tryz.underlying136 (xs:= [h0,h1,h2,h3]) (ys:=mg) (by rw[←Hmg.out];exact HB.out.take 4) Ul rfl rfl;obtain⟨bm,hbm⟩: ∃bm,bm=decide (xs.take 4=mg):=⟨_,rfl⟩;have hb4:decide ([h0,h1,h2,h3]=mg)=bm:=by rw[hbm,Hmg.out]
  rw[hb4] at heq;simp only[mg,List.map_cons,List.map_nil] at heq;have Hbm:Hid _:=hbm;clear hb4 hbm;refine qA (v:= .bool (!bm)) (w':=w5) (by simp only[execOp,Act.eval];go_simp) ⟨HS5.out,?_⟩;go_simp;refine zt (by kernel_rfl) (NoPanic.normal ?_);go_wp2;go_meet;exact⟨by rw[Hbm.out],HC5.out⟩
 case rest=>
  obtain⟨rfl,hC5⟩:=hcut;generalize wc=w5 at*;have s5:=hC5.size;have HC5:Hid _:=HC4.out.trans hC5;have HH5:Hid _:=(hC5.block w3.heap.size (by omega) (by omega)).trans HH4.out;have HD5:Hid _:=(hC5.block (w.heap.size+2) (by omega) (by omega)).trans HD4.out;have HR5:Hid _:=(HC5.out.block w.heap.size (by omega) (by omega)).trans Hz2.out;have HQ5:Hid _:=(HC5.out.block (w.heap.size+1) (by omega) (by omega)).trans Hz3.out
  have HG5:Hid _:=HG4.out.chg hC5 (by omega);have HC5w:Hid _:=HA.out.trans HC5.out;clear hC5 HH4 HD4 HG4 HC4 Hz2 Hz3;by_cases hm:xs.take 4=mg
  ·have hmd:(!decide (xs.take 4=mg))=false:=by rw[decide_eq_true hm];rfl
   rw[hmd];have Hm:Hid _:=hm;obtain⟨k0,k1,k2,k3,k4,k5,k6⟩:w5.cell? (zd w3.heap.size)=some (zb h0)∧w5.cell? ⟨w3.heap.size,1,none⟩=some (zb h1)∧w5.cell? ⟨w3.heap.size,2,none⟩=some (zb h2)∧w5.cell? ⟨w3.heap.size,3,none⟩=some (zb h3)∧w5.cell? ⟨w3.heap.size,4,none⟩=some (za h4)∧w5.cell? ⟨w3.heap.size,5,none⟩=some (za h5)∧w5.cell? ⟨w3.heap.size,6,none⟩=some (za h6):=by
    have:=HH5.out;simp[World.cell?,this]
   clear hm hmd;by_cases hk:1≤h4∧h4≤4
   ·obtain⟨hk1,hk2⟩:=hk;have g1: ¬h4<1:=by omega
    have g2: ¬h4>4:=by omega
    have Hk:Hid (1≤h4∧h4≤4):=⟨hk1,hk2⟩;clear hk1 hk2;go_upto_region 9 with fail;clear k0 k1 k2 k3 k4 k5 k6 g1 g2;have HS:Hid ((fun w':World=>(w'.heap[w3.heap.size]?=some (.cells (List.toArray [zb h0,zb h1,zb h2,zb h3,za h4,za h5,za h6]) 138 (0,0))∧w'.heap[w.heap.size+2]?=some (.cells cs.toArray 72 (0,0)))∧w'.cell? (zd 5)=some (.iface tM vM)) w5.drew):=⟨⟨HH5.out,HD5.out⟩,HG5.out.eM⟩;refine zp (fun w':World=>(w'.heap[w3.heap.size]?=some (.cells (List.toArray [zb h0,zb h1,zb h2,zb h3,za h4,za h5,za h6]) 138 (0,0))∧w'.heap[w.heap.size+2]?=some (.cells cs.toArray 72 (0,0)))∧w'.cell? (zd 5)=some (.iface tM vM)) (by kernel_rfl) ?_
    refine zv 0 (.agg cs.toArray) rfl (by kernel_rfl) (by kernel_rfl) (by kernel_rfl) (fun _ _ _ h=>h) (yieldsIf_load_mid (by kernel_rfl) 72 (.tmp 5) rfl (w.heap.size+2) 0 rfl cs _ (fun w' hw'=>zj hw'.1.2) Tryz.underlying72 rfl hi28) HS.out ?_;go_simp;refine zv 1 (.agg (List.toArray [zb h0,zb h1,zb h2,zb h3,za h4,za h5,za h6])) rfl (by kernel_rfl) (by kernel_rfl) (by kernel_rfl) (fun _ _ _ h=>h) (yieldsIf_load_mid (by kernel_rfl) 138 (.tmp 6) rfl w3.heap.size 0 rfl [zb h0,zb h1,zb h2,zb h3,za h4,za h5,za h6] _ (fun w' hw'=>zj hw'.1.1) Tryz.underlying138 rfl (by kernel_rfl)) HS.out ?_
    go_simp;have hc56:=Chg.drew (Chg.refl 0 0 w5);generalize w5.drew=w6 at*;have s6:=hc56.size;have HC6:Hid _:=HC5w.out.trans hc56;have R6:=(hc56.block w.heap.size (gLt HR5.out) (by omega)).trans HR5.out;have Q6:=(hc56.block (w.heap.size+1) (gLt HQ5.out) (by omega)).trans HQ5.out;refine zg 2 rfl rfl (by kernel_rfl) ?_;refine wp_store_row 72 (.tmp 2) (.tmp 39) rfl rfl w.heap.size rfl cs Z64 72 rfl R6 (by rw[zD];exact HL1.out) hi28 HL2.out ?_
    intro w7 hb7 hc7;have HS7:Hid ((fun w':World=>(w'.heap[w3.heap.size]?=some (.cells (List.toArray [zb h0,zb h1,zb h2,zb h3,za h4,za h5,za h6]) 138 (0,0))∧w'.heap[w.heap.size+2]?=some (.cells cs.toArray 72 (0,0)))∧w'.cell? (zd 5)=some (.iface tM vM)) w7):=⟨⟨(hc7.block w3.heap.size (gLt HS.out.1.1) (by omega)).trans HS.out.1.1,(hc7.block (w.heap.size+2) (gLt HS.out.1.2) (by omega)).trans HS.out.1.2⟩,hc7.cell HS.out.2 (by omega)⟩
    have Q7:=(hc7.block (w.heap.size+1) (gLt Q6) (by omega)).trans Q6;have s7:=hc7.size;refine⟨HS7.out,?_⟩;go_simp;refine zg 3 rfl rfl (by kernel_rfl) ?_;refine wp_store_row 138 (.tmp 3) (.tmp 40) rfl rfl (w.heap.size+1) rfl [zb h0,zb h1,zb h2,zb h3,za h4,za h5,za h6] z7 138 rfl Q7 rfl (by kernel_rfl) (by simp[Value.oneCell']) ?_;intro w8 hb8 hc8;have HS8:Hid ((fun w':World=>(w'.heap[w3.heap.size]?=some (.cells (List.toArray [zb h0,zb h1,zb h2,zb h3,za h4,za h5,za h6]) 138 (0,0))∧w'.heap[w.heap.size+2]?=some (.cells cs.toArray 72 (0,0)))∧w'.cell? (zd 5)=some (.iface tM vM)) w8):=⟨⟨(hc8.block w3.heap.size (gLt HS7.out.1.1) (by omega)).trans HS7.out.1.1,(hc8.block (w.heap.size+2) (gLt HS7.out.1.2) (by omega)).trans HS7.out.1.2⟩,hc8.cell HS7.out.2 (by omega)⟩
    have s8:=hc8.size;have Hb7:Hid _:=(hc8.block w.heap.size (gLt hb7) (by omega)).trans hb7;have Hb8:Hid _:=hb8;have cz:Chg w.heap.size (w.heap.size+2) w6 w8:=(hc7.widen (by omega) (by omega)).trans (hc8.widen (by omega) (by omega));have HCZ:Hid _:=cz;refine⟨HS8.out,?_⟩;clear cz hb7 hb8 hc7 hc8 R6 Q6 Q7 hc56;go_simp;refine zg 4 rfl rfl (by kernel_rfl) ?_;refine qA (v:= .nilIface) (w':=w8) (by first|kernel_rfl|go_simp) ⟨HS8.out,?_⟩
    go_simp;refine zt (by kernel_rfl) (NoPanic.normal ?_);go_wp2;have hl1:(loadVar 72 (zd w.heap.size)).run Tryz.prog w8= .ok (.agg cs.toArray) w8:=run_loadVar_mid _ _ _ _ cs _ (zj Hb7.out) Tryz.underlying72 rfl hi28;have hl2:(loadVar 138 (zd (w.heap.size+1))).run Tryz.prog w8= .ok (.agg (List.toArray [zb h0,zb h1,zb h2,zb h3,za h4,za h5,za h6])) w8:=run_loadVar_mid _ _ _ _ [zb h0,zb h1,zb h2,zb h3,za h4,za h5,za h6] _ (zj Hb8.out) Tryz.underlying138 rfl (by kernel_rfl)
    refine bodyPost_ret (v:= .tuple #[.agg cs.toArray,.agg (List.toArray [zb h0,zb h1,zb h2,zb h3,za h4,za h5,za h6]),.nilIface]) (Zz Tryz.results145 rfl rfl rfl hl1 hl2) rfl ⟨_,by rw[He7.out],HC6.out.step HCZ.out (by omega),?_⟩;exact Or.inr (Or.inr ⟨Hm.out,by rw[Hx4.out];exact Hk.out,rfl⟩)
   ·have hg:h4<1∨(¬h4<1∧h4>4):=by omega
    have Hk:Hid _:=hk;clear hk;rcases hg with g1|⟨g1,g2⟩
    all_goals
     go_upto_region 8 with fail
     clear k0 k1 k2 k3 k4 k5 k6
     have HS:Hid ((fun w':World=>(w'.heap[w3.heap.size]?=some (.cells (List.toArray [zb h0,zb h1,zb h2,zb h3,za h4,za h5,za h6]) 138 (0,0))∧w'.heap[w.heap.size+2]?=some (.cells cs.toArray 72 (0,0)))∧w'.cell? (zd 1)=some (.iface tK vK)) w5.drew):=⟨⟨HH5.out,HD5.out⟩,HG5.out.eK⟩
     refine zp (fun w':World=>(w'.heap[w3.heap.size]?=some (.cells (List.toArray [zb h0,zb h1,zb h2,zb h3,za h4,za h5,za h6]) 138 (0,0))∧w'.heap[w.heap.size+2]?=some (.cells cs.toArray 72 (0,0)))∧w'.cell? (zd 1)=some (.iface tK vK)) (by kernel_rfl) ?_
     refine zv 0 (.agg cs.toArray) rfl (by kernel_rfl) (by kernel_rfl) (by kernel_rfl) (fun _ _ _ h=>h) (yieldsIf_load_mid (by kernel_rfl) 72 (.tmp 5) rfl (w.heap.size+2) 0 rfl cs _ (fun w' hw'=>zj hw'.1.2) Tryz.underlying72 rfl hi28) HS.out ?_
     go_simp
     refine zv 1 (.agg (List.toArray [zb h0,zb h1,zb h2,zb h3,za h4,za h5,za h6])) rfl (by kernel_rfl) (by kernel_rfl) (by kernel_rfl) (fun _ _ _ h=>h) (yieldsIf_load_mid (by kernel_rfl) 138 (.tmp 6) rfl w3.heap.size 0 rfl [zb h0,zb h1,zb h2,zb h3,za h4,za h5,za h6] _ (fun w' hw'=>zj hw'.1.1) Tryz.underlying138 rfl (by kernel_rfl)) HS.out ?_
     go_simp
     refine hTk 2 (.iface tK vK) rfl (fun w' hw'=>by have m0:=hw'.2;go_simp) HS.out ?_
     go_simp
     refine zg 3 rfl rfl (by kernel_rfl) ?_
     refine zl 146 #[za 0,.iface tK vK] (by first|kernel_rfl|go_simp) (Qe w5.drew 0 tK vK) ?_
     rintro e w6 ⟨rfl,hF,hc6⟩
     have hc56:=(Chg.drew (Chg.refl 0 0 w5)).trans hc6
     have HF6:Hid _:=hF
     have HS6:Hid ((fun w':World=>(w'.heap[w3.heap.size]?=some (.cells (List.toArray [zb h0,zb h1,zb h2,zb h3,za h4,za h5,za h6]) 138 (0,0))∧w'.heap[w.heap.size+2]?=some (.cells cs.toArray 72 (0,0)))∧w'.cell? (zd 1)=some (.iface tK vK)) w6):=⟨⟨(hc6.block w3.heap.size (gLt HS.out.1.1) (by omega)).trans HS.out.1.1,(hc6.block (w.heap.size+2) (gLt HS.out.1.2) (by omega)).trans HS.out.1.2⟩,hc6.cell HS.out.2 (by omega)⟩
     refine⟨_,rfl,HS6.out,?_⟩
     have hsd:w5.drew.heap.size=w5.heap.size:=rfl
     rw[hsd]
     clear hsd hc6 hF
     go_simp
     have s6:=hc56.size
     have HC6:Hid _:=HC5w.out.trans hc56
     have R6:=(hc56.block w.heap.size (gLt HR5.out) (by omega)).trans HR5.out
     have Q6:=(hc56.block (w.heap.size+1) (gLt HQ5.out) (by omega)).trans HQ5.out
     refine zg 4 rfl rfl (by kernel_rfl) ?_
     refine wp_store_row 72 (.tmp 2) (.tmp 35) rfl rfl w.heap.size rfl cs Z64 72 rfl R6 (by rw[zD];exact HL1.out) hi28 HL2.out ?_
     intro w7 hb7 hc7
     have HS7:Hid ((fun w':World=>(w'.heap[w3.heap.size]?=some (.cells (List.toArray [zb h0,zb h1,zb h2,zb h3,za h4,za h5,za h6]) 138 (0,0))∧w'.heap[w.heap.size+2]?=some (.cells cs.toArray 72 (0,0)))∧w'.cell? (zd 1)=some (.iface tK vK)) w7):=⟨⟨(hc7.block w3.heap.size (gLt HS6.out.1.1) (by omega)).trans HS6.out.1.1,(hc7.block (w.heap.size+2) (gLt HS6.out.1.2) (by omega)).trans HS6.out.1.2⟩,hc7.cell HS6.out.2 (by omega)⟩
     have Q7:=(hc7.block (w.heap.size+1) (gLt Q6) (by omega)).trans Q6
     have s7:=hc7.size
     refine⟨HS7.out,?_⟩
     go_simp
     refine zg 5 rfl rfl (by kernel_rfl) ?_
     refine wp_store_row 138 (.tmp 3) (.tmp 36) rfl rfl (w.heap.size+1) rfl [zb h0,zb h1,zb h2,zb h3,za h4,za h5,za h6] z7 138 rfl Q7 rfl (by kernel_rfl) (by simp[Value.oneCell']) ?_
     intro w8 hb8 hc8
     have HS8:Hid ((fun w':World=>(w'.heap[w3.heap.size]?=some (.cells (List.toArray [zb h0,zb h1,zb h2,zb h3,za h4,za h5,za h6]) 138 (0,0))∧w'.heap[w.heap.size+2]?=some (.cells cs.toArray 72 (0,0)))∧w'.cell? (zd 1)=some (.iface tK vK)) w8):=⟨⟨(hc8.block w3.heap.size (gLt HS7.out.1.1) (by omega)).trans HS7.out.1.1,(hc8.block (w.heap.size+2) (gLt HS7.out.1.2) (by omega)).trans HS7.out.1.2⟩,hc8.cell HS7.out.2 (by omega)⟩
     have s8:=hc8.size
     have Hb7:Hid _:=(hc8.block w.heap.size (gLt hb7) (by omega)).trans hb7
     have Hb8:Hid _:=hb8
     have cz:Chg w.heap.size (w.heap.size+2) w6 w8:=(hc7.widen (by omega) (by omega)).trans (hc8.widen (by omega) (by omega))
     have HCZ:Hid _:=cz
     refine⟨HS8.out,?_⟩
     clear cz hb7 hb8 hc7 hc8 R6 Q6 Q7 hc56
     go_simp
     refine zg 6 rfl rfl (by kernel_rfl) ?_
     refine qA (v:= .iface 228 (.pointer (some (zd w5.heap.size)))) (w':=w8) (by first|kernel_rfl|go_simp) ⟨HS8.out,?_⟩
     go_simp
     refine zt (by kernel_rfl) (NoPanic.normal ?_)
     go_wp2
     have hl1:(loadVar 72 (zd w.heap.size)).run Tryz.prog w8= .ok (.agg cs.toArray) w8:=run_loadVar_mid _ _ _ _ cs _ (zj Hb7.out) Tryz.underlying72 rfl hi28
     have hl2:(loadVar 138 (zd (w.heap.size+1))).run Tryz.prog w8= .ok (.agg (List.toArray [zb h0,zb h1,zb h2,zb h3,za h4,za h5,za h6])) w8:=run_loadVar_mid _ _ _ _ [zb h0,zb h1,zb h2,zb h3,za h4,za h5,za h6] _ (zj Hb8.out) Tryz.underlying138 rfl (by kernel_rfl)
     refine bodyPost_ret (v:= .tuple #[.agg cs.toArray,.agg (List.toArray [zb h0,zb h1,zb h2,zb h3,za h4,za h5,za h6]),.iface 228 (.pointer (some (zd w5.heap.size)))]) (Zz Tryz.results145 rfl rfl rfl hl1 hl2) rfl ⟨_,by rw[He7.out],HC6.out.step HCZ.out (by omega),?_⟩
     exact Or.inr (Or.inl ⟨Hm.out,by rw[Hx4.out];exact Hk.out,⟨w5.heap.size,0,by omega,rfl,(HCZ.out.block w5.heap.size (gLt HF6.out) (by omega)).trans HF6.out⟩⟩)
  ·have hmd:(!decide (xs.take 4=mg))=true:=by rw[decide_eq_false hm];rfl
   rw[hmd];have Hm:Hid _:=hm;clear hm hmd;go_upto_region 6 with fail;have HS:Hid ((fun w':World=>(w'.heap[w3.heap.size]?=some (.cells (List.toArray [zb h0,zb h1,zb h2,zb h3,za h4,za h5,za h6]) 138 (0,0))∧w'.heap[w.heap.size+2]?=some (.cells cs.toArray 72 (0,0)))∧w'.cell? (zd 5)=some (.iface tM vM)) w5.drew):=⟨⟨HH5.out,HD5.out⟩,HG5.out.eM⟩;refine zp (fun w':World=>(w'.heap[w3.heap.size]?=some (.cells (List.toArray [zb h0,zb h1,zb h2,zb h3,za h4,za h5,za h6]) 138 (0,0))∧w'.heap[w.heap.size+2]?=some (.cells cs.toArray 72 (0,0)))∧w'.cell? (zd 5)=some (.iface tM vM)) (by kernel_rfl) ?_
   refine zv 0 (.agg cs.toArray) rfl (by kernel_rfl) (by kernel_rfl) (by kernel_rfl) (fun _ _ _ h=>h) (yieldsIf_load_mid (by kernel_rfl) 72 (.tmp 5) rfl (w.heap.size+2) 0 rfl cs _ (fun w' hw'=>zj hw'.1.2) Tryz.underlying72 rfl hi28) HS.out ?_;go_simp;refine zv 1 (.agg (List.toArray [zb h0,zb h1,zb h2,zb h3,za h4,za h5,za h6])) rfl (by kernel_rfl) (by kernel_rfl) (by kernel_rfl) (fun _ _ _ h=>h) (yieldsIf_load_mid (by kernel_rfl) 138 (.tmp 6) rfl w3.heap.size 0 rfl [zb h0,zb h1,zb h2,zb h3,za h4,za h5,za h6] _ (fun w' hw'=>zj hw'.1.1) Tryz.underlying138 rfl (by kernel_rfl)) HS.out ?_
   go_simp;refine hTk 2 (.iface tM vM) rfl (fun w' hw'=>by have m0:=hw'.2;go_simp) HS.out ?_;go_simp;refine zg 3 rfl rfl (by kernel_rfl) ?_;refine zl 146 #[za 0,.iface tM vM] (by first|kernel_rfl|go_simp) (Qe w5.drew 0 tM vM) ?_;rintro e w6 ⟨rfl,hF,hc6⟩;have hc56:=(Chg.drew (Chg.refl 0 0 w5)).trans hc6;have HF6:Hid _:=hF;have HS6:Hid ((fun w':World=>(w'.heap[w3.heap.size]?=some (.cells (List.toArray [zb h0,zb h1,zb h2,zb h3,za h4,za h5,za h6]) 138 (0,0))∧w'.heap[w.heap.size+2]?=some (.cells cs.toArray 72 (0,0)))∧w'.cell? (zd 5)=some (.iface tM vM)) w6):=⟨⟨(hc6.block w3.heap.size (gLt HS.out.1.1) (by omega)).trans HS.out.1.1,(hc6.block (w.heap.size+2) (gLt HS.out.1.2) (by omega)).trans HS.out.1.2⟩,hc6.cell HS.out.2 (by omega)⟩
   refine⟨_,rfl,HS6.out,?_⟩;have hsd:w5.drew.heap.size=w5.heap.size:=rfl;rw[hsd];clear hsd hc6 hF;go_simp;have s6:=hc56.size;have HC6:Hid _:=HC5w.out.trans hc56;have R6:=(hc56.block w.heap.size (gLt HR5.out) (by omega)).trans HR5.out;have Q6:=(hc56.block (w.heap.size+1) (gLt HQ5.out) (by omega)).trans HQ5.out;refine zg 4 rfl rfl (by kernel_rfl) ?_;refine wp_store_row 72 (.tmp 2) (.tmp 23) rfl rfl w.heap.size rfl cs Z64 72 rfl R6 (by rw[zD];exact HL1.out) hi28 HL2.out ?_
   intro w7 hb7 hc7;have HS7:Hid ((fun w':World=>(w'.heap[w3.heap.size]?=some (.cells (List.toArray [zb h0,zb h1,zb h2,zb h3,za h4,za h5,za h6]) 138 (0,0))∧w'.heap[w.heap.size+2]?=some (.cells cs.toArray 72 (0,0)))∧w'.cell? (zd 5)=some (.iface tM vM)) w7):=⟨⟨(hc7.block w3.heap.size (gLt HS6.out.1.1) (by omega)).trans HS6.out.1.1,(hc7.block (w.heap.size+2) (gLt HS6.out.1.2) (by omega)).trans HS6.out.1.2⟩,hc7.cell HS6.out.2 (by omega)⟩
   have Q7:=(hc7.block (w.heap.size+1) (gLt Q6) (by omega)).trans Q6;have s7:=hc7.size;refine⟨HS7.out,?_⟩;go_simp;refine zg 5 rfl rfl (by kernel_rfl) ?_;refine wp_store_row 138 (.tmp 3) (.tmp 24) rfl rfl (w.heap.size+1) rfl [zb h0,zb h1,zb h2,zb h3,za h4,za h5,za h6] z7 138 rfl Q7 rfl (by kernel_rfl) (by simp[Value.oneCell']) ?_;intro w8 hb8 hc8;have HS8:Hid ((fun w':World=>(w'.heap[w3.heap.size]?=some (.cells (List.toArray [zb h0,zb h1,zb h2,zb h3,za h4,za h5,za h6]) 138 (0,0))∧w'.heap[w.heap.size+2]?=some (.cells cs.toArray 72 (0,0)))∧w'.cell? (zd 5)=some (.iface tM vM)) w8):=⟨⟨(hc8.block w3.heap.size (gLt HS7.out.1.1) (by omega)).trans HS7.out.1.1,(hc8.block (w.heap.size+2) (gLt HS7.out.1.2) (by omega)).trans HS7.out.1.2⟩,hc8.cell HS7.out.2 (by omega)⟩
   have s8:=hc8.size;have Hb7:Hid _:=(hc8.block w.heap.size (gLt hb7) (by omega)).trans hb7;have Hb8:Hid _:=hb8;have cz:Chg w.heap.size (w.heap.size+2) w6 w8:=(hc7.widen (by omega) (by omega)).trans (hc8.widen (by omega) (by omega));have HCZ:Hid _:=cz;refine⟨HS8.out,?_⟩;clear cz hb7 hb8 hc7 hc8 R6 Q6 Q7 hc56;go_simp;refine zg 6 rfl rfl (by kernel_rfl) ?_;refine qA (v:= .iface 228 (.pointer (some (zd w5.heap.size)))) (w':=w8) (by first|kernel_rfl|go_simp) ⟨HS8.out,?_⟩
   go_simp;refine zt (by kernel_rfl) (NoPanic.normal ?_);go_wp2;have hl1:(loadVar 72 (zd w.heap.size)).run Tryz.prog w8= .ok (.agg cs.toArray) w8:=run_loadVar_mid _ _ _ _ cs _ (zj Hb7.out) Tryz.underlying72 rfl hi28;have hl2:(loadVar 138 (zd (w.heap.size+1))).run Tryz.prog w8= .ok (.agg (List.toArray [zb h0,zb h1,zb h2,zb h3,za h4,za h5,za h6])) w8:=run_loadVar_mid _ _ _ _ [zb h0,zb h1,zb h2,zb h3,za h4,za h5,za h6] _ (zj Hb8.out) Tryz.underlying138 rfl (by kernel_rfl)
   refine bodyPost_ret (v:= .tuple #[.agg cs.toArray,.agg (List.toArray [zb h0,zb h1,zb h2,zb h3,za h4,za h5,za h6]),.iface 228 (.pointer (some (zd w5.heap.size)))]) (Zz Tryz.results145 rfl rfl rfl hl1 hl2) rfl ⟨_,by rw[He7.out],HC6.out.step HCZ.out (by omega),?_⟩;exact Or.inl ⟨Hm.out,⟨w5.heap.size,0,by omega,rfl,(HCZ.out.block w5.heap.size (gLt HF6.out) (by omega)).trans HF6.out⟩⟩
theorem Z8 (w:World){lo hi:Nat}{a:Value}{xs:List Int}{tL tM tK:TypeId}{vL vM vK:Value}(k:Int)(h1:zr w lo hi .u8 a xs)(hB:Byt xs)(hG:jl w tL tM tK vL vM vK)(hx:xs.length=64)(hm:xs.take 4=mg)(hk:xs.getD 4 0=k)(hk2:1≤k∧k≤4):
  Calls Tryz.prog 127 #[a,za k] w fun e w'=>e= .returned (.tuple #[.agg (xs.map (Value.int .u8)).toArray,.agg (hd7 xs),.nilIface])∧Chg 0 0 w w':=by
 obtain⟨z1,z2,z3⟩:=zN w (.cells Z64.toArray 72) (.cells z7.toArray 138);have hA:Chg 0 0 w ((w.alloc (.cells Z64.toArray 72)).alloc (.cells z7.toArray 138)):=(Chg.alloc (Chg.refl 0 0 w) _).alloc _;have hN:=Jc ((w.alloc (.cells Z64.toArray 72)).alloc (.cells z7.toArray 138)) (h1.chg hA (by omega)) hB (hG.chg hA (by omega)) hx;obtain⟨ao,cap,rfl,_⟩:=h1;obtain⟨cs,hcs⟩: ∃cs,cs=xs.map (Value.int .u8):=⟨_,rfl⟩
 have L1:cs.length=64:=by rw[hcs];simpa using hx
 have L2: ∀v∈cs,v.oneCell'=true:=by rw[hcs];exact ints_oneCell _ _
 have hi28:(Tryz.prog.info? 72).map (·.size)=some cs.length:=by rw[L1];kernel_rfl
 have HL1:Hid (cs.length=64):=L1;have HL2:Hid (∀v∈cs,v.oneCell'=true):=L2;rw[←hcs] at hN⊢;obtain⟨h0,h1,h2,h3,h5,h6,e7⟩: ∃h0 h1 h2 h3 h5 h6:Int,hd7 xs= #[zb h0,zb h1,zb h2,zb h3,za k,za h5,za h6]:=⟨_,_,_,_,_,_,by unfold hd7;rw[hk]⟩;rw[e7] at hN⊢;have HO:Hid (∀w' ev,NS xs w' ((w.alloc (.cells Z64.toArray 72)).alloc (.cells z7.toArray 138)).heap.size tM tK vM vK ev→ev= .nilIface):=by
  intro w' ev h;rcases h with⟨h,_⟩|⟨_,h,_⟩|⟨_,_,h⟩
  ·exact absurd hm h
  ·rw[hk] at h;exact absurd hk2 h
  ·exact h
 clear hcs L1 L2 hx hB hG hm hk e7;go_enter Tryz.func127,Tryz.ntmps127;go_upto_region 1 with fail;simp only[zM];generalize (w.alloc (.cells Z64.toArray 72)).alloc (.cells z7.toArray 138)=wa at*;have Hz2:Hid (wa.heap[w.heap.size]?=some (.cells Z64.toArray 72 (0,0))):=z2;have Hz3:Hid (wa.heap[w.heap.size+1]?=some (.cells z7.toArray 138 (0,0))):=z3;have HA:Hid (Chg 0 0 w wa):=hA;have hz1:w.heap.size+2≤wa.heap.size:=by omega
 clear z1 z2 z3 hA;go_wp2_with fail;refine hN.mono ?_;rintro e w2 ⟨ev,rfl,c2,hor⟩;obtain rfl:=HO.out _ _ hor;have s2:=c2.size;have HC2:Hid (Chg 0 0 wa w2):=c2;clear hN hor HO c2;obtain⟨y1,y2,y3⟩:=zN w2 (.cells Z64.toArray 72) (.cells z7.toArray 138);have hA2:Chg 0 0 w2 ((w2.alloc (.cells Z64.toArray 72)).alloc (.cells z7.toArray 138)):=(Chg.alloc (Chg.refl 0 0 w2) _).alloc _;have HY2:Hid (((w2.alloc (.cells Z64.toArray 72)).alloc (.cells z7.toArray 138)).heap[w2.heap.size]?=some (.cells Z64.toArray 72 (0,0))):=y2
 have HY3:Hid (((w2.alloc (.cells Z64.toArray 72)).alloc (.cells z7.toArray 138)).heap[w2.heap.size+1]?=some (.cells z7.toArray 138 (0,0))):=y3;have HA2:Hid (Chg 0 0 w2 ((w2.alloc (.cells Z64.toArray 72)).alloc (.cells z7.toArray 138))):=hA2;clear y1 y2 y3 hA2;go_upto_region 2 with(first
  |(refine wpList_store_row rfl 72 (.tmp 7) (.tmp 13) rfl rfl w2.heap.size rfl cs Z64 72 rfl (by simp only[zM];exact HY2.out) (by rw[zD];exact HL1.out) hi28 HL2.out ?_;intro w3 hb3 hc3)
  |(refine wpList_store_row rfl 138 (.tmp 8) (.tmp 14) rfl rfl (w2.heap.size+1) rfl [zb h0,zb h1,zb h2,zb h3,za k,za h5,za h6] z7 138 rfl (by simp only[zM] at hc3;exact(hc3.block (w2.heap.size+1) (gLt HY3.out) (by omega)).trans HY3.out) rfl (by kernel_rfl) (by simp[Value.oneCell']) ?_;intro w4 hb4 hc4))
 have s3:=hc3.size;have s4:=hc4.size;have hz4:w2.heap.size+1<w4.heap.size:=(gLt hb4);have C4:Chg 0 0 w2 w4:=by
  simp only[zM] at hc3;exact(HA2.out.step hc3 (by omega)).step hc4 (by omega)
 have HH:Hid ((fun w':World=>w'.heap[w2.heap.size+1]?=some (.cells (List.toArray [zb h0,zb h1,zb h2,zb h3,za k,za h5,za h6]) 138 (0,0))∧w'.heap[w2.heap.size]?=some (.cells cs.toArray 72 (0,0))) w4):=⟨hb4,(hc4.block _ (gLt hb3) (by omega)).trans hb3⟩;have HC4:Hid (Chg 0 0 wa w4):=HC2.out.trans C4;have k4:w4.cell? ⟨w2.heap.size+1,4,none⟩=some (za k):=by simp[World.cell?,hb4]
 have hkk:(k !=k)=false:=by simp
 clear hb3 hb4 hc3 hc4 C4 HA2 HY2 HY3 HC2;go_upto_region 4 with fail;clear k4 hkk;have HS:Hid ((fun w':World=>w'.heap[w2.heap.size+1]?=some (.cells (List.toArray [zb h0,zb h1,zb h2,zb h3,za k,za h5,za h6]) 138 (0,0))∧w'.heap[w2.heap.size]?=some (.cells cs.toArray 72 (0,0))) w4.drew):=HH.out;have HC5:Hid (Chg 0 0 w w4.drew):=(HA.out.trans HC4.out).drew;have R5:w4.drew.heap[w.heap.size]?=some (.cells Z64.toArray 72 (0,0)):=(HC4.out.block w.heap.size (by omega) (by omega)).trans Hz2.out
 have Q5:w4.drew.heap[w.heap.size+1]?=some (.cells z7.toArray 138 (0,0)):=(HC4.out.block (w.heap.size+1) (by omega) (by omega)).trans Hz3.out;refine zp (fun w':World=>w'.heap[w2.heap.size+1]?=some (.cells (List.toArray [zb h0,zb h1,zb h2,zb h3,za k,za h5,za h6]) 138 (0,0))∧w'.heap[w2.heap.size]?=some (.cells cs.toArray 72 (0,0))) (by kernel_rfl) ?_;clear HH;generalize w4.drew=w5 at*;refine zv 0 (.agg cs.toArray) rfl (by kernel_rfl) (by kernel_rfl) (by kernel_rfl) (fun _ _ _ h=>h) (yieldsIf_load_mid (by kernel_rfl) 72 (.tmp 7) rfl w2.heap.size 0 rfl cs _ (fun w' hw'=>zj hw'.2) Tryz.underlying72 rfl hi28) HS.out ?_
 go_simp;refine zv 1 (.agg (List.toArray [zb h0,zb h1,zb h2,zb h3,za k,za h5,za h6])) rfl (by kernel_rfl) (by kernel_rfl) (by kernel_rfl) (fun _ _ _ h=>h) (yieldsIf_load_mid (by kernel_rfl) 138 (.tmp 8) rfl (w2.heap.size+1) 0 rfl [zb h0,zb h1,zb h2,zb h3,za k,za h5,za h6] _ (fun w' hw'=>zj hw'.1) Tryz.underlying138 rfl (by kernel_rfl)) HS.out ?_;go_simp;refine hTk 2 .nilIface rfl (fun w' hw'=>by go_simp) HS.out ?_
 go_simp;refine zg 3 rfl rfl (by kernel_rfl) ?_;refine wp_store_row 72 (.tmp 4) (.tmp 27) rfl rfl w.heap.size rfl cs Z64 72 rfl R5 (by rw[zD];exact HL1.out) hi28 HL2.out ?_;intro w7 hb7 hc7;have s7:=hc7.size;have HS7:Hid ((fun w':World=>w'.heap[w2.heap.size+1]?=some (.cells (List.toArray [zb h0,zb h1,zb h2,zb h3,za k,za h5,za h6]) 138 (0,0))∧w'.heap[w2.heap.size]?=some (.cells cs.toArray 72 (0,0))) w7):=⟨(hc7.block _ (gLt HS.out.1) (by omega)).trans HS.out.1,(hc7.block _ (gLt HS.out.2) (by omega)).trans HS.out.2⟩
 have Q7:=(hc7.block (w.heap.size+1) (gLt Q5) (by omega)).trans Q5;refine⟨HS7.out,?_⟩;go_simp;refine zg 4 rfl rfl (by kernel_rfl) ?_;refine wp_store_row 138 (.tmp 5) (.tmp 28) rfl rfl (w.heap.size+1) rfl [zb h0,zb h1,zb h2,zb h3,za k,za h5,za h6] z7 138 rfl Q7 rfl (by kernel_rfl) (by simp[Value.oneCell']) ?_;intro w8 hb8 hc8;have s8:=hc8.size;have HS8:Hid (_∧_):=⟨(hc8.block _ (gLt HS7.out.1) (by omega)).trans HS7.out.1,(hc8.block _ (gLt HS7.out.2) (by omega)).trans HS7.out.2⟩
 have Hb7:Hid _:=(hc8.block w.heap.size (gLt hb7) (by omega)).trans hb7;have Hb8:Hid _:=hb8;have cz:Chg w.heap.size (w.heap.size+2) w5 w8:=(hc7.widen (by omega) (by omega)).trans (hc8.widen (by omega) (by omega));have HCZ:Hid _:=cz;refine⟨HS8.out,?_⟩;clear cz hb7 hb8 hc7 hc8 R5 Q5 Q7;go_simp;refine zg 5 rfl rfl (by kernel_rfl) ?_;refine qA (v:= .nilIface) (w':=w8) (by first|kernel_rfl|go_simp) ⟨HS8.out,?_⟩
 go_simp;refine zt (by kernel_rfl) (NoPanic.normal ?_);go_wp2;have hl1:(loadVar 72 (zd w.heap.size)).run Tryz.prog w8= .ok (.agg cs.toArray) w8:=run_loadVar_mid _ _ _ _ cs _ (zj Hb7.out) Tryz.underlying72 rfl hi28;have hl2:(loadVar 138 (zd (w.heap.size+1))).run Tryz.prog w8= .ok (.agg (List.toArray [zb h0,zb h1,zb h2,zb h3,za k,za h5,za h6])) w8:=run_loadVar_mid _ _ _ _ [zb h0,zb h1,zb h2,zb h3,za k,za h5,za h6] _ (zj Hb8.out) Tryz.underlying138 rfl (by kernel_rfl)
 exact bodyPost_ret (v:= .tuple #[.agg cs.toArray,.agg (List.toArray [zb h0,zb h1,zb h2,zb h3,za k,za h5,za h6]),.nilIface]) (Zz Tryz.results127 rfl rfl rfl hl1 hl2) rfl ⟨rfl,HC5.out.step HCZ.out (by omega)⟩
theorem Chg.setRow (w:World)(g:Nat)(cs:Array Value):Chg g (g+1) w (w.setRow g cs):=
 ⟨rfl,rfl,rfl,by simp[World.setRow],fun k _ hk=>setRow_other w g k cs (by omega)⟩
theorem Tryz.infoU:(Tryz.prog.info? 5).map (fun i=>(i.zero,i.size,i.bytes))=some (some (zb 0),1,1):=by kernel_rfl
theorem jM (w:World)(xs:List Int)(hx:xs.length=64):
  Calls Tryz.prog 29 #[.agg (xs.map (Value.int .u8)).toArray] w fun e w'=> ∃g,e= .returned (.slice (some (zd g)) 64 64)∧zi w' w.heap.size 5 (.slice (some (zd g)) 64 64) xs∧Chg 0 0 w w':=by
 obtain⟨i,hi,hz0,hz1,hz2⟩:=info_parts Tryz.infoU;obtain⟨cs,hcs⟩: ∃cs,cs=xs.map (Value.int .u8):=⟨_,rfl⟩;rw[←hcs];have L1:cs.length=64:=by rw[hcs];simpa using hx
 have L2: ∀v∈cs,v.oneCell'=true:=by rw[hcs];exact ints_oneCell _ _
 have HL1:Hid (cs.length=64):=L1;have HL2:Hid (∀v∈cs,v.oneCell'=true):=L2;have Hcs:Hid (cs=xs.map (Value.int .u8)):=hcs;have Hx:Hid (xs.length=64):=hx;have B0:=zh w (.cells cs.toArray 72);have HB0:Hid ((w.alloc (.cells cs.toArray 72)).heap[w.heap.size]?=some (.cells cs.toArray 72 (0,0))):=B0;clear L1 L2 hcs hx B0;go_enter Tryz.func29,Tryz.ntmps29;go_wp2_with (at_make;refine wpList_make_full _ rfl _ _ 22 rfl w.heap.size 5 i (zb 0) 1 Tryz.underlying22 hi hz0 hz1 _ _ _ _ 64 rfl rfl rfl rfl (by rw[hz2];omega) (by unfold maxLen;omega) (by simp) ?_)
 intro w1 hown hgrow;obtain⟨cur,hg,hcz⟩: ∃cur,w1.heap[w.heap.size+1]?=some (.cells cur 5 (0,0))∧cur.size=64:=by
  rcases hown.2 with⟨h',_⟩|⟨g',cap',cur,h',hb,hg,_,_,hs,_⟩
  ·cases h'
  ·simp only[Value.slice.injEq,Option.some.injEq,Addr.mk.injEq,and_true,true_and] at h';obtain⟨rfl,rfl⟩:=h';exact⟨cur,hg,by simpa using hs⟩
 have hbx:w1.heap[w.heap.size]?=some (.cells cs.toArray 72 (0,0)):=(hgrow.block w.heap.size (by simp) (by simp)).trans HB0.out;have C1:Chg 0 0 w w1:=(Chg.alloc (Chg.refl 0 0 w) _).trans (Chg.ofGrown hgrow (by simp));have hsrc: ∀j v,cs[j]?=some v→w1.cell? (((zd w.heap.size):Addr).add j)=some v:=by
  intro j v hj;rw[Addr.add_mid,Nat.zero_add,cell_of_row w1 w.heap.size j cs.toArray 72 (0,0) hbx];simpa using hj
 have Hg:Hid (w1.heap[w.heap.size+1]?=some (.cells cur 5 (0,0))):=hg;have Hcz:Hid (cur.size=64):=hcz;have Hsrc:Hid (∀j v,cs[j]?=some v→w1.cell? (((zd w.heap.size):Addr).add j)=some v):=hsrc;have hrow:cur.toList.take 0++(cs++cur.toList.drop (0+cs.length))=cs:=by
  rw[List.take_zero,List.nil_append,Nat.zero_add,List.drop_of_length_le (by rw[Array.length_toList,hcz,HL1.out];exact Nat.le_refl _),List.append_nil]
 have Hrow:Hid (cur.toList.take 0++(cs++cur.toList.drop (0+cs.length))=cs):=hrow;clear hown hgrow hg hcz hsrc hbx hrow HB0;go_wp2_with (refine wpList_copy_own rfl (.tmp 5) (.tmp 6) 22 22 rfl 5 Tryz.underlying22 (by kernel_rfl) (w.heap.size+1) 0 64 64 (zd w.heap.size) 64 64 rfl rfl cur 5 Hg.out cs (by rw[HL1.out];rfl) Hsrc.out (by rw[HL1.out,Hcz.out];omega) HL2.out ?_;rw[Hrow.out]);have HO:Hid (zi (w1.setRow (w.heap.size+1) cs.toArray) w.heap.size 5 (.slice (some (zd (w.heap.size+1))) 64 64) xs):=by
  show zi _ _ _ _ _;unfold zi;rw[Hx.out,←Hcs.out];refine⟨by rw[HL1.out],Or.inr ⟨w.heap.size+1,64,cs.toArray,rfl,by omega,setRow_heap _ _ _ _ _ _ Hg.out,Nat.le_refl _,by unfold maxLen;omega,by simpa using HL1.out,?_⟩⟩;exact List.take_of_length_le (by simp[HL1.out])
 have HC:Hid (Chg 0 0 w (w1.setRow (w.heap.size+1) cs.toArray)):=C1.step (Chg.setRow _ _ _) (Or.inr (Or.inl (by omega)));clear C1 Hg Hcz Hsrc Hrow;go_ret;exact⟨_,rfl,HO.out,HC.out⟩
theorem jk {P:Program}{o:Oper}{a:Act}{w:World}{K:Act→World→Prop}{Q:Exit→Act→World→Prop}(d s:Operand)(dT sT:TypeId)
  (ho:o.op= .call {callee:= .builtin .copy,args:= #[d,s],argTypes:= #[dT,sT]}) (elem:TypeId) (hu:P.underlying dT=some (.slice elem)) (hsz:(P.info? elem).map (·.size)=some 1)
  (g off dLen dCap:Nat) (ad:Addr) (sLen sCap:Nat) (hd:a.eval d= .slice (some ⟨g,off,none⟩) dLen dCap) (hs:a.eval s= .slice (some ad) sLen sCap)
  (cur:List Value) (t:TypeId) (hg:w.heap[g]?=some (.cells cur.toArray t (0,0))) (cs:List Value) (hn:cs.length=Nat.min sLen dLen)
  (hsrc: ∀j v,cs[j]?=some v→w.cell? (ad.add j)=some v) (hfit:off+cs.length≤cur.length) (h1: ∀v∈cs,v.oneCell'=true)
  (h: ∀w',Hid (w'.heap[g]?=some (.cells (splice cur off cs).toArray t (0,0)))→Chg g (g+1) w w'→K (a.put o.dst (goInt cs.length)) w'):
  Oper.wp P o a w K Q:=by
 have hrun:=run_copy_row (P:=P) w dT sT o.type elem g off dLen dCap ad sLen sCap cur.toArray t cs hu hsz hg hn hsrc (by simpa using hfit) h1;unfold Oper.wp;simp[execOp,ho,resolve,invoke,builtin,hd,hs,hrun,Result.andThen];exact h _ (show _=_ by simpa [splice] using setRow_heap w g _ _ t _ hg) (Chg.setRow _ _ _)
end Go.Proofs.YtacjklochmelfaaGreatDoor
