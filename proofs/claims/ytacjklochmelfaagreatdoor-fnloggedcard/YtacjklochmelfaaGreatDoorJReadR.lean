import Derived.Test.YtacjklochmelfaaGreatDoorJReadC
import Derived.Test.YtacjklochmelfaaGreatDoorRowsE
namespace Go.Proofs.YtacjklochmelfaaGreatDoor
open Go.RowKit
set_option maxRecDepth 100000
set_option maxHeartbeats 16000000
theorem Tryz.infoI9:(Tryz.prog.info? 2).map (fun i=>(i.zero,i.size,i.bytes))=some (some (za 0),1,8):=by kernel_rfl
abbrev NC (n:Nat):Obj:= .cells ((List.replicate n (0:Int)).map (Value.int .i64)).toArray 2
abbrev UG:Obj:= .cells #[zb 0,zb 0,zb 0,zb 0,za 0,za 0,za 0,zc] 191
theorem adX (n:Nat):madeCells (Value.int .i64 0).cells (n*1)=((List.replicate n (0:Int)).map (Value.int .i64)).toArray:=by
 apply Array.ext';rw[Nat.mul_one];show(madeCells #[Value.int .i64 0] n).toList=_;apply List.ext_getElem?;intro j;by_cases hj:j<n
 ·simp[madeCells,hj,Nat.mod_one]
 ·simp[madeCells,hj]
theorem XR (n:Nat)(hn:n≤1048576)(w:World):(Instr.makeSlice 33 (za n) (za n)).run Tryz.prog w= .ok (.slice (some (zd w.heap.size)) n n) (w.alloc (NC n)):=by
 obtain⟨i,hi,hz0,hz1,hz2⟩:=info_parts Tryz.infoI9;have h:=run_make (P:=Tryz.prog) w 33 2 i _ Tryz.underlying33 hi hz0 .i64 .i64 n n (by omega) (Int.le_refl _) (by rw[hz2];omega) (by omega);have e:((n:Int)).toNat=n:=by omega
 rw[h,hz1,e,adX]
theorem acu (w:World)(base n:Nat)(hb:base≤w.heap.size)(hn:n≤1048576):zP (w.alloc (NC n)) base 2 (.slice (some (zd w.heap.size)) n n) (List.replicate n 0):=by
 have:=World.ownsRow_lit (base:=base) (e:=2) (size:=1) w ((List.replicate n (0:Int)).map (Value.int .i64)).toArray n hb (by unfold maxLen;omega) (by simp);unfold zP;rw[List.length_replicate];exact this
theorem zP.setI {w:World}{base g n cap:Nat}{e:TypeId}{xs:List Int}(h:zP w base e (.slice (some (zd g)) n cap) xs)(hn:xs.length=n)(j:Nat)(u:Int):zP (w.setCell ⟨g,j,none⟩ (za u)) base e (.slice (some (zd g)) n cap) (xs.set j u):=by
 subst hn;have:=(World.ownsRow.stored h j (za u)).1;unfold zP;rw[List.length_set,List.map_set];exact this
structure StR (W0:World)(D:Nat)(W:World)(cs:List Value)(rs:List Int)(q:Int)(G L:Option Nat):Prop where
 sp:W.heap[D+1]?=some (.cells (List.toArray [zb 106,zb 108,zb 111,zb 103,za 3,za (rs.length:Int),za q]) 138 (0,0))∧W.heap[D]?=some (.cells cs.toArray 72 (0,0))
 ch:Chg 0 0 W0 W
 lt:D+1<W0.heap.size
 ln:rs.length≤26
 row: ∀g,G=some g→zP W W0.heap.size 2 (.slice (some (zd g)) rs.length rs.length) (List.replicate rs.length 0)
 blk: ∀b,L=some b→W0.heap.size≤b∧W.heap[b]?=some (.cells (List.toArray [zb 0,zb 0,zb 0,zb 0,za 0,za 0,za 0,zc]) 191 (0,0))
theorem StR.chg {W0 W W':World}{D:Nat}{cs:List Value}{rs:List Int}{q:Int}{G L:Option Nat}(h:StR W0 D W cs rs q G L)(c:Chg 0 0 W W'):StR W0 D W' cs rs q G L:=
 ⟨⟨(c.block _ (gLt h.sp.1) (by omega)).trans h.sp.1,(c.block _ (gLt h.sp.2) (by omega)).trans h.sp.2⟩,h.ch.trans c,h.lt,h.ln,fun g hg=>(h.row g hg).chg c (fun _ _=>by omega),fun b hb=>⟨(h.blk b hb).1,(c.block b (Array.getElem?_eq_some_iff.1 (h.blk b hb).2).1 (by omega)).trans (h.blk b hb).2⟩⟩
theorem StR.make {W0 W:World}{D:Nat}{cs:List Value}{rs:List Int}{q:Int}{L:Option Nat}(h:StR W0 D W cs rs q none L):StR W0 D (W.alloc (NC rs.length)) cs rs q (some W.heap.size) L:=by
 have h':=h.chg (Chg.alloc (Chg.refl 0 0 W) (NC rs.length));exact⟨h'.sp,h'.ch,h.lt,h.ln,fun g hg=>by cases hg;exact acu W _ _ h.ch.size (by have:=h.ln;omega),h'.blk⟩
theorem StR.alloc {W0 W:World}{D:Nat}{cs:List Value}{rs:List Int}{q:Int}{G:Option Nat}(h:StR W0 D W cs rs q G none):StR W0 D (W.alloc UG) cs rs q G (some W.heap.size):=by
 have h':=h.chg (Chg.alloc (Chg.refl 0 0 W) UG);exact⟨h'.sp,h'.ch,h.lt,h.ln,h'.row,fun b hb=>by cases hb;exact⟨h.ch.size,zh W _⟩⟩
structure DrR (W0:World)(D B g:Nat)(W:World)(cs:List Value)(rs:List Int)(q:Int)(k:Nat):Prop where
 sp:W.heap[D+1]?=some (.cells (List.toArray [zb 106,zb 108,zb 111,zb 103,za 3,za (rs.length:Int),za q]) 138 (0,0))∧W.heap[D]?=some (.cells cs.toArray 72 (0,0))
 ch:Chg 0 0 W0 W
 lt:D+1<W0.heap.size
 low:W0.heap.size≤B∧W0.heap.size≤g
 row:zP W W0.heap.size 2 (.slice (some (zd g)) rs.length rs.length) (rs.take k++List.replicate (rs.length-k) 0)
 blk:W.heap[B]?=some (.cells (List.toArray [zb 106,zb 108,zb 111,zb 103,za 3,za (rs.length:Int),za q,.slice (some (zd g)) rs.length rs.length]) 191 (0,0))
theorem StR.done {W0 W wy:World}{D B g:Nat}{cs:List Value}{rs:List Int}{q:Int}(h:StR W0 D W cs rs q (some g) (some B))(hy:wy.heap[B]?=some (.cells (List.toArray [zb 106,zb 108,zb 111,zb 103,za 3,za (rs.length:Int),za q,.slice (some (zd g)) rs.length rs.length]) 191 (0,0)))(cy:Chg B (B+1) W wy):DrR W0 D B g wy cs rs q 0:=by
 obtain⟨hb,hz⟩:=h.blk B rfl;have hr:=h.row g rfl;have hne:g≠B:=by
  obtain⟨cur,hc⟩:=zw hr (j:=g) rfl;intro e;rw[e] at hc;exact zR hc hz (by decide) rfl
 have hlt:=h.lt;refine⟨⟨(cy.block _ (gLt h.sp.1) (by omega)).trans h.sp.1,(cy.block _ (gLt h.sp.2) (by omega)).trans h.sp.2⟩,h.ch.step cy (by omega),h.lt,⟨hb,(hr.lt g rfl).1⟩,?_,hy⟩;rw[List.take_zero,List.nil_append,Nat.sub_zero];exact hr.chg cy (fun x hx=>by simp[Value.ownBlock] at hx;omega)
theorem DrR.chg {W0 W W':World}{D B g k:Nat}{cs:List Value}{rs:List Int}{q:Int}(h:DrR W0 D B g W cs rs q k)(c:Chg 0 0 W W'):DrR W0 D B g W' cs rs q k:=
 ⟨⟨(c.block _ (gLt h.sp.1) (by omega)).trans h.sp.1,(c.block _ (gLt h.sp.2) (by omega)).trans h.sp.2⟩,h.ch.trans c,h.lt,h.low,h.row.chg c (fun _ _=>by omega),(c.block _ (gLt h.blk) (by omega)).trans h.blk⟩
theorem DrR.len {W0 W:World}{D B g k:Nat}{cs:List Value}{rs:List Int}{q:Int}(_h:DrR W0 D B g W cs rs q k)(hk:k≤rs.length):(rs.take k++List.replicate (rs.length-k) 0).length=rs.length:=by
 rw[List.length_append,List.length_take,List.length_replicate];omega
theorem DrR.cell {W0 W:World}{D B g k:Nat}{cs:List Value}{rs:List Int}{q:Int}(h:DrR W0 D B g W cs rs q k)(hk:k<rs.length):W.cell? ⟨g,k,none⟩=some (za ((rs.take k++List.replicate (rs.length-k) 0).getD k 0))∧W.frozen? ⟨g,k,none⟩=false:=by
 have hl:=h.len (Nat.le_of_lt hk);refine⟨h.row.cell hl k hk,?_⟩;have:=h.row;unfold zP at this;rw[hl] at this;exact World.ownsRow.frozenAt this k
theorem DrR.put {W0 W:World}{D B g k:Nat}{cs:List Value}{rs:List Int}{q:Int}(h:DrR W0 D B g W cs rs q k)(hk:k<rs.length):DrR W0 D B g (W.setCell ⟨g,k,none⟩ (za (rs.getD k 0))) cs rs q (k+1):=by
 have hne:g≠B:=by
  obtain⟨cur,hc⟩:=zw h.row (j:=g) rfl;intro e;rw[e] at hc;exact zR hc h.blk (by decide) rfl
 have hlo:=h.low;have hlt:=h.lt;have c:Chg g (g+1) W (W.setCell ⟨g,k,none⟩ (za (rs.getD k 0))):=Chg.setCell (p:=⟨g,k,none⟩) (Chg.refl _ _ _) (Or.inl ⟨Nat.le_refl _,Nat.lt_succ_self _⟩) _;refine⟨⟨(c.block _ (gLt h.sp.1) (by omega)).trans h.sp.1,(c.block _ (gLt h.sp.2) (by omega)).trans h.sp.2⟩,h.ch.step c (by omega),h.lt,h.low,?_,(c.block _ (gLt h.blk) (by omega)).trans h.blk⟩;have hp:=h.row.setI (h.len (Nat.le_of_lt hk)) k (rs.getD k 0)
 have e:(rs.take k++List.replicate (rs.length-k) 0).set k (rs.getD k 0)=rs.take (k+1)++List.replicate (rs.length-(k+1)) 0:=by
  have e1:rs.length-k=(rs.length-(k+1))+1:=by omega
  have hl:(rs.take k).length=k:=by rw[List.length_take];omega
  rw[e1,List.replicate_succ,List.set_append,if_neg (by omega),hl,Nat.sub_self,List.set_cons_zero,List.take_succ_eq_append_getElem hk,List.append_assoc];simp[List.getD_eq_getElem?_getD,hk]
 rw[e] at hp;exact hp
theorem zP.lowI {w:World}{base base':Nat}{e:TypeId}{v:Value}{xs:List Int}(h:zP w base e v xs)(hb:base'≤base):zP w base' e v xs:=by
 obtain⟨h1,h2⟩:=h;refine⟨h1,?_⟩;rcases h2 with h2|⟨g,cap,cur,hv,hg,r⟩
 ·exact Or.inl h2
 ·exact Or.inr ⟨g,cap,cur,hv,Nat.le_trans hb hg,r⟩
theorem Vx (w:World){lo hi:Nat}{a:Value}{xs:List Int}{tL tM tK:TypeId}{vL vM vK:Value}(rs:List Int)(q:Int)(h1:zr w lo hi .u8 a xs)(hB:Byt xs)(hG:jl w tL tM tK vL vM vK)(hx:xs.length=64)(hm:xs.take 4=mg)(hk:xs.getD 4 0=3)(hh:hd7 xs= #[zb 106,zb 108,zb 111,zb 103,za 3,za (rs.length:Int),za q])(hget: ∀i,i<rs.length→Zn ((xs.drop (12+i*2)).take 2)=rs.getD i 0)
  (he:xs=qc (zm 3 (rs.length:Int) q++z8 rs)) (hq:1≤q∧q≤4294967295) (hr:K7 rs) (hl:1≤rs.length∧rs.length≤26) (hi2:(zk (rs.length:Int) 2).length=2) (hq4:(zk q 4).length=4):
  Calls Tryz.prog 152 #[a] w fun e w'=> ∃g,e= .returned (.tuple #[.agg #[zb 106,zb 108,zb 111,zb 103,za 3,za (rs.length:Int),za q,.slice (some (zd g)) rs.length rs.length],.nilIface])∧zP w' w.heap.size 2 (.slice (some (zd g)) rs.length rs.length) rs∧Chg 0 0 w w':=by
 have CA:Chg 0 0 w (w.alloc UG):=Chg.alloc (Chg.refl 0 0 w) _;have hn0:=zh w UG;have hN:=Z8 (w.alloc UG) 3 (h1.chg CA (by omega)) hB (hG.chg CA (by omega)) hx hm hk (by omega);obtain⟨ao,cap,rfl,_⟩:=h1;obtain⟨cs,hcs⟩: ∃cs,cs=xs.map (Value.int .u8):=⟨_,rfl⟩;have L1:cs.length=64:=by rw[hcs];simpa using hx
 have L2: ∀v∈cs,v.oneCell'=true:=by rw[hcs];exact ints_oneCell _ _
 have hi28:(Tryz.prog.info? 72).map (·.size)=some cs.length:=by rw[L1];kernel_rfl
 have HL1:Hid _:=L1;have HL2:Hid _:=L2;rw[←hcs] at hN;rw[hh] at hN;have hO:=fun W=>Zr W 106 108 111 103 3 rs.length q 1 26 (by omega) (by omega) (by omega) (by omega);have HGet:Hid _:=hget;have HRi:Hid (K7 rs):=hr;have HE:Hid _:=he;have HX:Hid _:=hx;have HBy:Hid (Byt xs):=hB;have Hcs:Hid _:=hcs;clear hget hr he hx hB hm hk hh hcs hG L1 L2;go_enter Tryz.func152,Tryz.ntmps152;go_wp2_with fail;generalize w.alloc UG=wa at*
 refine hN.mono ?_;rintro e w2 ⟨rfl,c2⟩;have s2:=c2.size;have hwa:=(gLt hn0);have HZ:Hid _:=(c2.block _ hwa (by omega)).trans hn0;have HA:Hid _:=CA.trans c2;clear hN c2 CA hn0;obtain⟨y1,y2,y3⟩:=zN w2 (.cells Z64.toArray 72) (.cells z7.toArray 138);have hA2:Chg 0 0 w2 ((w2.alloc (.cells Z64.toArray 72)).alloc (.cells z7.toArray 138)):=(Chg.alloc (Chg.refl 0 0 w2) _).alloc _;have HY2:Hid _:=y2;have HY3:Hid _:=y3
 have HA2:Hid _:=hA2;clear y1 y2 y3 hA2;go_upto_region 2 with(first
  |(refine wpList_store_row rfl 72 (.tmp 4) (.tmp 14) rfl rfl w2.heap.size rfl cs Z64 72 rfl (by simp only[zM];exact HY2.out) (by rw[zD];exact HL1.out) hi28 HL2.out ?_;intro w3 hb3 hc3)
  |(refine wpList_store_row rfl 138 (.tmp 5) (.tmp 15) rfl rfl (w2.heap.size+1) rfl [zb 106,zb 108,zb 111,zb 103,za 3,za (rs.length:Int),za q] z7 138 rfl (by simp only[zM] at hc3;exact(hc3.block (w2.heap.size+1) (gLt HY3.out) (by omega)).trans HY3.out) rfl (by kernel_rfl) (by simp[Value.oneCell']) ?_;intro w4' hb4 hc4))
 have s3:=hc3.size;have s4':=hc4.size;have hz4':=(gLt hb4);have C4:Chg 0 0 w2 w4':=by
  simp only[zM] at hc3;exact(HA2.out.step hc3 (by omega)).step hc4 (by omega)
 have HH':Hid (_∧_):=⟨hb4,(hc4.block _ (gLt hb3) (by omega)).trans hb3⟩;have HR7:Hid _:=zj hb4;have HCw':Hid _:=HA.out.trans C4;have HZ':Hid _:=(C4.block _ (by omega) (by omega)).trans HZ.out;clear hb3 hb4 hc3 hc4 C4 HA2 HY2 HY3;go_upto_region 7 with(first
  |(refine wpList_load_mid rfl 138 (.tmp 5) rfl (w2.heap.size+1) 0 rfl [zb 106,zb 108,zb 111,zb 103,za 3,za (rs.length:Int),za q] _ HR7.out Tryz.underlying138 rfl (by kernel_rfl) ?_)
  |(go_at_call 162;refine(hO _).mono ?_;rintro e w4 ⟨rfl,c4⟩))
 have s4:=c4.size;have HH:Hid (_∧_):=⟨(c4.block _ (gLt HH'.out.1) (by omega)).trans HH'.out.1,(c4.block _ (gLt HH'.out.2) (by omega)).trans HH'.out.2⟩;have HCw:Hid _:=HCw'.out.trans c4;have HZ4:Hid _:=(c4.block _ (by omega) (by omega)).trans HZ'.out;have hz4:w2.heap.size+1<w4.heap.size:=by omega
 clear c4 HH' HCw' HZ' HR7 hO;go_cut [8] (fun s8 wx=> ∃B8 g,s8= .pointer (some (zd B8))∧DrR w4 w2.heap.size B8 g wx cs rs q 0)
 case first=>
  have hSt:StR w4 w2.heap.size w4.drew cs rs q none none:=⟨HH.out,Chg.drew (Chg.refl 0 0 w4),hz4,hl.2,fun _ e=>(by cases e),fun _ e=>(by cases e)⟩;refine zp (fun w':World=>w'.heap[w2.heap.size+1]?=some (.cells (List.toArray [zb 106,zb 108,zb 111,zb 103,za 3,za (rs.length:Int),za q]) 138 (0,0))∧w'.heap[w2.heap.size]?=some (.cells cs.toArray 72 (0,0))) (by kernel_rfl) ?_;generalize w4.drew=w5 at*;refine zv 0 (.agg (List.toArray [zb 106,zb 108,zb 111,zb 103,za 3,za (rs.length:Int),za q])) rfl (by kernel_rfl) (by kernel_rfl) (by kernel_rfl) (fun _ _ _ h=>h) (yieldsIf_load_mid (by kernel_rfl) 138 (.tmp 5) rfl (w2.heap.size+1) 0 rfl [zb 106,zb 108,zb 111,zb 103,za 3,za (rs.length:Int),za q] _ (fun w' hw'=>zj hw'.1) Tryz.underlying138 rfl (by kernel_rfl)) hSt.sp ?_
  go_simp;refine zv 1 (.agg (List.toArray [zb 106,zb 108,zb 111,zb 103,za 3,za (rs.length:Int),za q])) rfl (by kernel_rfl) (by kernel_rfl) (by kernel_rfl) (fun _ _ _ h=>h) (yieldsIf_load_mid (by kernel_rfl) 138 (.tmp 5) rfl (w2.heap.size+1) 0 rfl [zb 106,zb 108,zb 111,zb 103,za 3,za (rs.length:Int),za q] _ (fun w' hw'=>zj hw'.1) Tryz.underlying138 rfl (by kernel_rfl)) hSt.sp ?_;go_simp;refine Zy 2 5 rfl rfl rfl rfl (by kernel_rfl) ?_ ?_
  ·refine zl 107 #[.agg (List.toArray [zb 106,zb 108,zb 111,zb 103,za 3,za (rs.length:Int),za q])] (by first|kernel_rfl|go_simp) (jZ w5 106 108 111 103 3 rs.length q) ?_;rintro e v1 ⟨rfl,hk⟩;replace hSt:=hSt.chg hk;clear hk;refine⟨_,rfl,hSt.sp,?_⟩;go_simp;refine Zy 3 5 rfl rfl rfl rfl (by kernel_rfl) ?_ ?_
   ·have hmk:=XR rs.length (by omega);go_simp;clear hmk;replace hSt:=hSt.make;refine⟨hSt.sp,?_⟩;generalize v1.alloc (NC rs.length)=v2 at*;refine hTk 4 (.agg (List.toArray [zb 106,zb 108,zb 111,zb 103,za 3,za (rs.length:Int),za q,.slice (some (zd v1.heap.size)) rs.length rs.length])) rfl (fun w' hw'=>by go_simp) hSt.sp ?_;go_simp;refine zg 5 rfl rfl (by kernel_rfl) ?_;go_simp;replace hSt:=hSt.alloc
    refine⟨hSt.sp,?_⟩;generalize v2.alloc UG=v3 at*;refine zg 6 rfl rfl (by kernel_rfl) ?_;refine wp_store_row 191 (.tmp 8) (.tmp 31) rfl rfl (v2.heap.size) rfl [zb 106,zb 108,zb 111,zb 103,za 3,za (rs.length:Int),za q,.slice (some (zd v1.heap.size)) rs.length rs.length] [zb 0,zb 0,zb 0,zb 0,za 0,za 0,za 0,zc] 191 rfl (hSt.blk _ rfl).2 rfl (by kernel_rfl) (by simp[Value.oneCell']) ?_;intro wy hy cy
    have HF:Hid _:=hSt.done hy cy;have HS9:Hid _:=HF.out.sp;clear hy cy hSt;refine⟨HS9.out,zt (by kernel_rfl) (NoPanic.normal ?_)⟩;go_wp2;go_meet;exact⟨_,_,rfl,HF.out⟩
   ·go_simp;replace hSt:=hSt.alloc;refine⟨hSt.sp,?_⟩;generalize v1.alloc UG=v4 at*;refine zg 3 rfl rfl (by kernel_rfl) ?_;have hmk:=XR rs.length (by omega);go_simp;clear hmk;replace hSt:=hSt.make;refine⟨hSt.sp,?_⟩;generalize v4.alloc (NC rs.length)=v5 at*;refine hTk 4 (.agg (List.toArray [zb 106,zb 108,zb 111,zb 103,za 3,za (rs.length:Int),za q,.slice (some (zd v4.heap.size)) rs.length rs.length])) rfl (fun w' hw'=>by go_simp) hSt.sp ?_
    go_simp;refine zg 6 rfl rfl (by kernel_rfl) ?_;refine wp_store_row 191 (.tmp 8) (.tmp 31) rfl rfl (v1.heap.size) rfl [zb 106,zb 108,zb 111,zb 103,za 3,za (rs.length:Int),za q,.slice (some (zd v4.heap.size)) rs.length rs.length] [zb 0,zb 0,zb 0,zb 0,za 0,za 0,za 0,zc] 191 rfl (hSt.blk _ rfl).2 rfl (by kernel_rfl) (by simp[Value.oneCell']) ?_;intro wy hy cy;have HF:Hid _:=hSt.done hy cy;have HS9:Hid _:=HF.out.sp
    clear hy cy hSt;refine⟨HS9.out,zt (by kernel_rfl) (NoPanic.normal ?_)⟩;go_wp2;go_meet;exact⟨_,_,rfl,HF.out⟩
  ·go_simp;replace hSt:=hSt.alloc;refine⟨hSt.sp,?_⟩;generalize w5.alloc UG=v6 at*;refine zg 2 rfl rfl (by kernel_rfl) ?_;refine zl 107 #[.agg (List.toArray [zb 106,zb 108,zb 111,zb 103,za 3,za (rs.length:Int),za q])] (by first|kernel_rfl|go_simp) (jZ v6 106 108 111 103 3 rs.length q) ?_;rintro e v7 ⟨rfl,hk⟩;replace hSt:=hSt.chg hk;clear hk;refine⟨_,rfl,hSt.sp,?_⟩;go_simp;refine zg 3 rfl rfl (by kernel_rfl) ?_
   have hmk:=XR rs.length (by omega);go_simp;clear hmk;replace hSt:=hSt.make;refine⟨hSt.sp,?_⟩;generalize v7.alloc (NC rs.length)=v8 at*;refine hTk 4 (.agg (List.toArray [zb 106,zb 108,zb 111,zb 103,za 3,za (rs.length:Int),za q,.slice (some (zd v7.heap.size)) rs.length rs.length])) rfl (fun w' hw'=>by go_simp) hSt.sp ?_;go_simp;refine zg 6 rfl rfl (by kernel_rfl) ?_;refine wp_store_row 191 (.tmp 8) (.tmp 31) rfl rfl (w5.heap.size) rfl [zb 106,zb 108,zb 111,zb 103,za 3,za (rs.length:Int),za q,.slice (some (zd v7.heap.size)) rs.length rs.length] [zb 0,zb 0,zb 0,zb 0,za 0,za 0,za 0,zc] 191 rfl (hSt.blk _ rfl).2 rfl (by kernel_rfl) (by simp[Value.oneCell']) ?_
   intro wy hy cy;have HF:Hid _:=hSt.done hy cy;have HS9:Hid _:=HF.out.sp;clear hy cy hSt;refine⟨HS9.out,zt (by kernel_rfl) (NoPanic.normal ?_)⟩;go_wp2;go_meet;exact⟨_,_,rfl,HF.out⟩
 case rest=>
  obtain⟨B8,g,rfl,hD⟩:=hcut;generalize wc=w9 at*;have hge: ∀(W:World) (k:Nat),k<rs.length→W.heap[w2.heap.size]?=some (.cells cs.toArray 72 (0,0))→Calls Tryz.prog 128 #[.slice (some ⟨w2.heap.size,12+k*2,none⟩) 2 (64-(12+k*2))] W fun e w'=>e= .returned (za (rs.getD k 0))∧Chg 0 0 W w':=fun W k hk hW=>by
   have hl2:((xs.drop (12+k*2)).take 2).length=2:=by rw[List.length_take,List.length_drop,HX.out];omega
   have hv:zr W w2.heap.size (w2.heap.size+1) .u8 (.slice (some ⟨w2.heap.size,12+k*2,none⟩) 2 (64-(12+k*2))) ((xs.drop (12+k*2)).take 2):=by
    refine⟨_,_,by rw[hl2],by omega,⟨by omega,by simp⟩,Or.inr ⟨w2.heap.size,12+k*2,rfl,Nat.le_refl _,Nat.lt_succ_self _,fun i hi=>?_⟩⟩;rw[hl2] at hi;simp only[World.cell?,hW];rw[Hcs.out];have hx:=HX.out;simp[List.getD_eq_getElem?_getD,hi,hx,show 12+k*2+i<64 by omega]
   have:=jq W ((HBy.out.drop (12+k*2)).take 2) hv;rw[HGet.out k hk] at this;exact this.mono fun e w' h=>⟨h.1,h.2.chg 0 0⟩
  have HCf:Hid (∀W,DrR w4 w2.heap.size B8 g W cs rs q rs.length→Calls Tryz.prog 129 #[.iface 191 (.agg (List.toArray [zb 106,zb 108,zb 111,zb 103,za 3,za (rs.length:Int),za q,.slice (some (zd g)) rs.length rs.length])),.agg cs.toArray] W fun e w'=>e= .returned .nilIface∧Chg 0 0 W w'):=fun W h=>by
   have hrow:=h.row;rw[List.take_length,Nat.sub_self,List.replicate_zero,List.append_nil] at hrow;have hv:=hrow.view (by omega) (fun x hx=>(hrow.lt x hx).2);have:=U1 W q hv HRi.out hl hq hi2 hq4 xs HE.out HX.out HBy.out;rw[←Hcs.out] at this;exact this
  have HGE:Hid _:=hge;clear hge HGet HE HX HBy Hcs HRi;obtain⟨k0,k1,k2,k3,k4,k5,k6,k7⟩:=eight hD.blk;go_wp2_with fail;clear k0 k1 k2 k3 k4 k5 k6 k7;go_loopw [35,9,10] (fun x _ _ wr=> ∃k:Nat,k≤rs.length∧x=za k∧DrR w4 w2.heap.size B8 g wr cs rs q k) (fun x _ _ _=>rs.length-(RowKit.intOf x).toNat)
  case atStart=>exact⟨0,Nat.zero_le _,rfl,hD⟩
  case round=>
   clear hD;obtain⟨k,hk,rfl,hD⟩:=hrel;by_cases hlt:k<rs.length
   ·have hk':(k:Int)<(rs.length:Int):=by omega
    go_upto_region 12 with fail;have HS:Hid ((fun w':World=>w'.heap[B8]?=some (.cells (List.toArray [zb 106,zb 108,zb 111,zb 103,za 3,za (rs.length:Int),za q,.slice (some (zd g)) rs.length rs.length]) 191 (0,0))∧w'.heap[w2.heap.size]?=some (.cells cs.toArray 72 (0,0))) wr.drew):=⟨hD.blk,hD.sp.2⟩;have hDd:=hD.chg (Chg.drew (Chg.refl 0 0 wr));obtain⟨z,Hz⟩: ∃z,Hid (z=rs.getD k 0):=⟨_,rfl⟩;have hg7:=HGE.out wr.drew k hlt hD.sp.2
    rw[←Hz.out] at hg7;have e1:IntKind.i64.wrap (12+(k:Int)*2+2)=12+(k:Int)*2+2:=by rw[IntKind.wrap_i64];omega
    have e2:(12+(k:Int)*2).toNat=12+k*2:=by omega
    have e3:(12+(k:Int)*2+2).toNat=12+k*2+2:=by omega
    have e4: ¬(12+(k:Int)*2<0):=by omega
    have e5:12+(k:Int)*2≤12+(k:Int)*2+2:=by omega
    have e6:12+(k:Int)*2+2≤64:=by omega
    have hsl: ∀W:World,(Instr.sliceAt 72 (.pointer (some (zd w2.heap.size))) (some (za (12+(k:Int)*2))) (some (za (12+(k:Int)*2+2))) none).run Tryz.prog W= .ok (.slice (some ⟨w2.heap.size,12+k*2,none⟩) 2 (64-(12+k*2))) W:=fun W=>by
     have ha:Tryz.prog.arrayLen 72=64:=by kernel_rfl
     have h:=run_sliceAt_array_lh (P:=Tryz.prog) W 72 (zd w2.heap.size) (by kernel_rfl) .i64 .i64 (12+(k:Int)*2) (12+(k:Int)*2+2) (by omega) (by omega) (by rw[ha];omega);have hz:(sizeOf (Tryz.prog.elem 72)).run Tryz.prog W= .ok 1 W:=by kernel_rfl
     rw[h,hz,ha,e2,e3];show Result.ok (slicedAt _ _ _ _ _) W=_;unfold slicedAt;rw[if_neg (by omega),Nat.mul_one,Addr.add_mid,Nat.zero_add,show 12+k*2+2-(12+k*2)=2 by omega]
    refine zp (fun w':World=>w'.heap[B8]?=some (.cells (List.toArray [zb 106,zb 108,zb 111,zb 103,za 3,za (rs.length:Int),za q,.slice (some (zd g)) rs.length rs.length]) 191 (0,0))∧w'.heap[w2.heap.size]?=some (.cells cs.toArray 72 (0,0))) (by kernel_rfl) ?_;clear hD;generalize wr.drew=wd at*;refine hTk 0 (.pointer (some ⟨B8,7,none⟩)) rfl (fun w' hw'=>by go_simp) HS.out ?_;go_simp;refine hTk 1 (.slice (some (zd g)) rs.length rs.length) rfl (fun w' hw'=>by obtain⟨k0,k1,k2,k3,k4,k5,k6,k7⟩:=eight hw'.1;go_simp) HS.out ?_
    go_simp;refine hTk 2 (za k) rfl (fun w' hw'=>by go_simp) HS.out ?_;go_simp;refine hTk 3 (za (12+(k:Int)*2)) rfl (fun w' hw'=>by go_simp) HS.out ?_;go_simp;refine hTk 4 (za (12+(k:Int)*2)) rfl (fun w' hw'=>by go_simp) HS.out ?_;go_simp;refine hTk 5 (za (12+(k:Int)*2+2)) rfl (fun w' hw'=>by go_simp) HS.out ?_;go_simp;refine hTk 6 (.slice (some ⟨w2.heap.size,12+k*2,none⟩) 2 (64-(12+k*2))) rfl (fun w' hw'=>by have:=hsl w';go_simp) HS.out ?_
    go_simp;refine zg 7 rfl rfl (by kernel_rfl) ?_;refine zl 128 #[.slice (some ⟨w2.heap.size,12+k*2,none⟩) 2 (64-(12+k*2))] (by first|kernel_rfl|go_simp) hg7 ?_;rintro e wn ⟨rfl,cn⟩;have hDn:=hDd.chg cn;have HSn:Hid (_∧_):=⟨hDn.blk,hDn.sp.2⟩;refine⟨_,rfl,HSn.out,?_⟩;clear cn hDd HS hsl e1 e2 e3 e4 e5 e6;go_simp;refine hTk 8 (.pointer (some ⟨g,k,none⟩)) rfl (fun w' hw'=>by go_simp) HSn.out ?_;go_simp
    refine zg 9 rfl rfl (by kernel_rfl) ?_;obtain⟨hcell,hfr⟩:=hDn.cell hlt;have hDp:=hDn.put hlt;rw[←Hz.out] at hDp;have HDp:Hid _:=hDp;have HSp:Hid (_∧_):=⟨hDp.blk,hDp.sp.2⟩;clear hDn hDp HSn;go_simp;refine⟨HSp.out,zt (by kernel_rfl) (NoPanic.normal ?_)⟩;go_wp2;go_roundw
    case rel=>exact⟨k+1,by omega,by go_num,HDp.out⟩
    case measure=>simp[RowKit.intOf];omega
   ·obtain rfl:k=rs.length:=by omega
    have hk': ¬((rs.length:Int)<(rs.length:Int)):=by omega
    have s9:=hD.ch.size;have hlt0:=hD.lt;have HS:Hid ((fun w':World=>w'.heap[B8]?=some (.cells (List.toArray [zb 106,zb 108,zb 111,zb 103,za 3,za (rs.length:Int),za q,.slice (some (zd g)) rs.length rs.length]) 191 (0,0))∧w'.heap[w2.heap.size]?=some (.cells cs.toArray 72 (0,0))) wr.drew):=⟨hD.blk,hD.sp.2⟩;have hDd:=hD.chg (Chg.drew (Chg.refl 0 0 wr));have HZ9:wr.drew.heap[w.heap.size]?=some (.cells (List.toArray [zb 0,zb 0,zb 0,zb 0,za 0,za 0,za 0,zc]) 191 (0,0)):=(hD.ch.block _ (by omega) (by omega)).trans HZ4.out
    have HC9:Hid _:=(HCw.out.trans hD.ch).drew;clear hD;go_upto_region 14 with fail;refine zp (fun w':World=>w'.heap[B8]?=some (.cells (List.toArray [zb 106,zb 108,zb 111,zb 103,za 3,za (rs.length:Int),za q,.slice (some (zd g)) rs.length rs.length]) 191 (0,0))∧w'.heap[w2.heap.size]?=some (.cells cs.toArray 72 (0,0))) (by kernel_rfl) ?_;generalize wr.drew=wd at*;refine zv 0 (.agg (List.toArray [zb 106,zb 108,zb 111,zb 103,za 3,za (rs.length:Int),za q,.slice (some (zd g)) rs.length rs.length])) rfl (by kernel_rfl) (by kernel_rfl) (by kernel_rfl) (fun _ _ _ h=>h) (yieldsIf_load_mid (by kernel_rfl) 191 (.tmp 8) rfl B8 0 rfl [zb 106,zb 108,zb 111,zb 103,za 3,za (rs.length:Int),za q,.slice (some (zd g)) rs.length rs.length] _ (fun w' hw'=>zj hw'.1) Tryz.underlying191 rfl (by kernel_rfl)) HS.out ?_
    go_simp;refine zv 1 (.agg (List.toArray [zb 106,zb 108,zb 111,zb 103,za 3,za (rs.length:Int),za q,.slice (some (zd g)) rs.length rs.length])) rfl (by kernel_rfl) (by kernel_rfl) (by kernel_rfl) (fun _ _ _ h=>h) (yieldsIf_load_mid (by kernel_rfl) 191 (.tmp 8) rfl B8 0 rfl [zb 106,zb 108,zb 111,zb 103,za 3,za (rs.length:Int),za q,.slice (some (zd g)) rs.length rs.length] _ (fun w' hw'=>zj hw'.1) Tryz.underlying191 rfl (by kernel_rfl)) HS.out ?_
    go_simp;refine hTk 2 (.iface 191 (.agg (List.toArray [zb 106,zb 108,zb 111,zb 103,za 3,za (rs.length:Int),za q,.slice (some (zd g)) rs.length rs.length]))) rfl (fun w' hw'=>by go_simp) HS.out ?_;go_simp;refine zv 3 (.agg cs.toArray) rfl (by kernel_rfl) (by kernel_rfl) (by kernel_rfl) (fun _ _ _ h=>h) (yieldsIf_load_mid (by kernel_rfl) 72 (.tmp 4) rfl w2.heap.size 0 rfl cs _ (fun w' hw'=>zj hw'.2) Tryz.underlying72 rfl hi28) HS.out ?_
    go_simp;refine zg 4 rfl rfl (by kernel_rfl) ?_;refine zl 129 #[.iface 191 (.agg (List.toArray [zb 106,zb 108,zb 111,zb 103,za 3,za (rs.length:Int),za q,.slice (some (zd g)) rs.length rs.length])),.agg cs.toArray] (by first|kernel_rfl|go_simp) (HCf.out wd hDd) ?_;rintro e we ⟨rfl,ce⟩;have se:=ce.size;have hDe:=hDd.chg ce;have HSe:Hid (_∧_):=⟨hDe.blk,hDe.sp.2⟩;have hze:=(ce.block _ (gLt HZ9) (by omega)).trans HZ9
    refine⟨_,rfl,HSe.out,?_⟩;go_simp;refine zg 5 rfl rfl (by kernel_rfl) ?_;refine wp_store_row 191 (.tmp 2) (.tmp 51) rfl rfl w.heap.size rfl [zb 106,zb 108,zb 111,zb 103,za 3,za (rs.length:Int),za q,.slice (some (zd g)) rs.length rs.length] [zb 0,zb 0,zb 0,zb 0,za 0,za 0,za 0,zc] 191 rfl hze rfl (by kernel_rfl) (by simp[Value.oneCell']) ?_;intro wf hbf hcf;have hlow:=hDe.low;have HSf:Hid (_∧_):=⟨(hcf.block _ (gLt HSe.out.1) (by omega)).trans HSe.out.1,(hcf.block _ (gLt HSe.out.2) (by omega)).trans HSe.out.2⟩
    have Hbf:Hid _:=hbf;have HCz:Hid _:=(HC9.out.trans ce).step hcf (by omega);have HRo:Hid (zP wf w.heap.size 2 (.slice (some (zd g)) rs.length rs.length) rs):=by
     have hrow:=hDe.row;rw[List.take_length,Nat.sub_self,List.replicate_zero,List.append_nil] at hrow;exact(hrow.chg hcf (fun x hx=>by simp[Value.ownBlock] at hx;omega)).lowI (by omega)
    refine⟨HSf.out,?_⟩;clear hbf hcf ce hze;go_simp;refine zg 6 rfl rfl (by kernel_rfl) ?_;refine qA (v:= .nilIface) (w':=wf) (by first|kernel_rfl|go_simp) ⟨HSf.out,?_⟩;go_simp;refine zt (by kernel_rfl) (NoPanic.normal ?_);go_wp2;have hl1:(loadVar 191 (zd w.heap.size)).run Tryz.prog wf= .ok (.agg (List.toArray [zb 106,zb 108,zb 111,zb 103,za 3,za (rs.length:Int),za q,.slice (some (zd g)) rs.length rs.length])) wf:=run_loadVar_mid _ _ _ _ [zb 106,zb 108,zb 111,zb 103,za 3,za (rs.length:Int),za q,.slice (some (zd g)) rs.length rs.length] _ (zj Hbf.out) Tryz.underlying191 rfl (by kernel_rfl)
    exact bodyPost_ret (v:= .tuple #[.agg (List.toArray [zb 106,zb 108,zb 111,zb 103,za 3,za (rs.length:Int),za q,.slice (some (zd g)) rs.length rs.length]),.nilIface]) (jB Tryz.results152 rfl rfl hl1) rfl ⟨g,rfl,HRo.out,HCz.out⟩
end Go.Proofs.YtacjklochmelfaaGreatDoor
