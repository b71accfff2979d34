import Derived.Test.YtacjklochmelfaaGreatDoorJReadC
import Derived.Defers
import Derived.Laws.Pointers
import Derived.Laws.LoneSync
import Derived.RegionTactic
import Derived.RegionCalls
import Derived.Deep.RegionWith
import Derived.Test.YtacjklochmelfaaGreatDoorTagOwn
import Derived.Test.YtacjklochmelfaaGreatDoorSurvLast
import Derived.Test.YtacjklochmelfaaGreatDoorCells2
import Derived.Test.YtacjklochmelfaaGreatDoorSpecEsc
import Derived.Test.YtacjklochmelfaaGreatDoorTxnBase
import Derived.Test.YtacjklochmelfaaGreatDoorRows
namespace Go.Proofs.YtacjklochmelfaaGreatDoor
open Go.RowKit
set_option maxRecDepth 100000
set_option maxHeartbeats 16000000
theorem Xq (w:World):(callFunc 163 #[]).run Tryz.prog w= .ok (.value (.tuple #[])) w:=run_call_mark0 Tryz.func163 (by kernel_rfl) (by kernel_rfl) (by kernel_rfl) .disable (by kernel_rfl) w
theorem Ys (w:World):(callFunc 165 #[]).run Tryz.prog w= .ok (.value (.tuple #[])) w:=run_call_mark0 Tryz.func165 (by kernel_rfl) (by kernel_rfl) (by kernel_rfl) .enable (by kernel_rfl) w
theorem UB (a:Addr)(w:World):(callFunc 166 #[.pointer (some a)]).run Tryz.prog w= .ok (.value (.tuple #[])) w:=run_call_marked Tryz.func166 (by kernel_rfl) (by kernel_rfl) (by kernel_rfl) .acquire (by kernel_rfl) a w
theorem UC (a:Addr)(w:World):(callFunc 168 #[.pointer (some a)]).run Tryz.prog w= .ok (.value (.tuple #[])) w:=run_call_marked Tryz.func168 (by kernel_rfl) (by kernel_rfl) (by kernel_rfl) .releaseMerge (by kernel_rfl) a w
theorem Nk (a:Addr)(x:Value)(u:FrameMode)(w:World)(hc:w.cell? a=some x)(hz:w.frozen? a=false):
  CallsD Tryz.prog 144 #[.pointer (some a),.bool true] u w fun e u' w'=>u'=u∧(e= .returned (.tuple #[])∧w'=w.drew.setCell a (.int .u32 1)):=by
 have hc':w.drew.cell? a=some x:=by go_simp
 have hz':w.drew.frozen? a=false:=by go_simp
 have hst:=run_call_store (P:=Tryz.prog) Tryz.func157 (by kernel_rfl) (by kernel_rfl) (by kernel_rfl) (by kernel_rfl) (k:= .u32) (y:=1) hc' hz';go_enter_d Tryz.func144,Tryz.ntmps144;go_wp2;go_region_calls
 all_goals (go_end0;exact⟨rfl,rfl⟩)
theorem Ek (a:Addr)(u:FrameMode)(w:World)(hc:w.cell? a=some (.int .i32 1))(hz:w.frozen? a=false):
  CallsD Tryz.prog 143 #[.pointer (some a)] u w fun e u' w'=>u'=u∧(e= .returned (.tuple #[])∧w'=w.setCell a (.int .i32 0)):=by
 have hd:=Xq;have he:=Ys;have hr:=UC;have hadd:=run_call_add (P:=Tryz.prog) Tryz.func169 (by kernel_rfl) (by kernel_rfl) (by kernel_rfl) .i32 (by kernel_rfl) (y:= -1) (s:=0) hc hz (by simp[go_sem];rfl);have hcv:=run_convert_to_unsafe (P:=Tryz.prog) (src:=279) (dst:=241) Tryz.underlying279 Tryz.underlying241 (by kernel_rfl) hc;go_enter_d Tryz.func143,Tryz.ntmps143;go_wp2;go_end0;go_wp2;go_end0;exact⟨rfl,rfl⟩
theorem aaQ (a:Addr)(w:World)(hc:w.cell? a=some (.int .i32 0))(hz:w.frozen? a=false):
  Calls Tryz.prog 142 #[.pointer (some a)] w fun e w'=>e= .returned (.tuple #[])∧w'=w.setCell a (.int .i32 1):=by
 have hd:=Xq;have he:=Ys;have ha:=UB;have hcas:=run_call_cas_hit (P:=Tryz.prog) Tryz.func164 (by kernel_rfl) (by kernel_rfl) (by kernel_rfl) .i32 (by kernel_rfl) (y:=1) hc hz;have hc':(w.setCell a (.int .i32 1)).cell? a=some (.int .i32 1):=World.cell?_setCell_same w a _ hc;have hcv:=run_convert_to_unsafe (P:=Tryz.prog) (src:=279) (dst:=241) Tryz.underlying279 Tryz.underlying241 (by kernel_rfl) hc'
 go_enter Tryz.func142,Tryz.ntmps142;go_wp2
 first|go_end0|(simp only[Exit.inBlock,Exit.then];refine bodyPost_ret (results_none rfl _ _ _) rfl ?_)|refine bodyPost_ret (results_none rfl _ _ _) rfl ?_
 go_wp2;go_end0;exact⟨rfl,rfl⟩
structure Sm (w:World)(b:Nat)(d s:Int)(k:Nat):Prop where
 c0:w.cell? (zd b)=some (.int .u32 d)
 c1:w.cell? ⟨b,1,none⟩=some (.int .i32 s)
 fr: ∀o,w.frozen? ⟨b,o,none⟩=false
 ex: ∀i,i<256→ ∃x,w.cell? ⟨b,3+i,none⟩=some x
 tab: ∀i,i<k→w.cell? ⟨b,3+i,none⟩=some (.int .u32 (qI 8 i 0:Nat))
 ty: ∃cs:Array Value,w.heap[b]?=some (.cells cs 132 (0,0))
theorem Sm.drew {w:World}{b:Nat}{d s:Int}{k:Nat}(h:Sm w b d s k):Sm w.drew b d s k:=
 ⟨h.c0,h.c1,h.fr,h.ex,h.tab,h.ty⟩
theorem qP {w:World}{p q:Addr}{v x:Value}(h:w.cell? q=some x)(hn:p≠q):(w.setCell p v).cell? q=some x:=(World.cell?_setCell_other w p q v hn).trans h
theorem Zu {b i j:Nat}(h:i≠j):(⟨b,i,none⟩:Addr)≠⟨b,j,none⟩:=fun e=>h (by injection e)
theorem NO {w:World}{b o:Nat}{v:Value}(h: ∃cs:Array Value,w.heap[b]?=some (.cells cs 132 (0,0))): ∃cs:Array Value,(w.setCell ⟨b,o,none⟩ v).heap[b]?=some (.cells cs 132 (0,0)):=by
 obtain⟨cs,h⟩:=h;exact⟨_,heap_setCell_same w b o cs _ v h⟩
theorem Sm.put {w:World}{b:Nat}{d s:Int}{k:Nat}(h:Sm w b d s k)(hk:k<256):Sm (w.setCell ⟨b,3+k,none⟩ (.int .u32 (qI 8 k 0:Nat))) b d s (k+1):=by
 obtain⟨c0,c1,fr,ex,tab,ty⟩:=h;obtain⟨x,hx⟩:=ex k hk;refine⟨qP c0 (Zu (by omega)),qP c1 (Zu (by omega)),fun o=>by simp[fr o],fun i hi=>?_,fun i hi=>?_,NO ty⟩
 ·by_cases e:i=k
  ·subst e;exact⟨_,World.cell?_setCell_same w _ _ hx⟩
  ·obtain⟨y,hy⟩:=ex i hi;exact⟨y,qP hy (Zu (by omega))⟩
 ·by_cases e:i=k
  ·subst e;exact World.cell?_setCell_same w _ _ hx
  ·exact qP (tab i (by omega)) (Zu (by omega))
theorem Sm.lock {w:World}{b:Nat}{d s:Int}{k:Nat}(h:Sm w b d s k)(s':Int):Sm (w.setCell ⟨b,1,none⟩ (.int .i32 s')) b d s' k:=by
 obtain⟨c0,c1,fr,ex,tab,ty⟩:=h;refine⟨qP c0 (Zu (by omega)),World.cell?_setCell_same w _ _ c1,fun o=>by simp[fr o],fun i hi=>?_,fun i hi=>qP (tab i hi) (Zu (by omega)),NO ty⟩;obtain⟨y,hy⟩:=ex i hi;exact⟨y,qP hy (Zu (by omega))⟩
theorem Sm.done {w:World}{b:Nat}{d s:Int}{k:Nat}(h:Sm w b d s k)(d':Int):Sm (w.setCell (zd b) (.int .u32 d')) b d' s k:=by
 obtain⟨c0,c1,fr,ex,tab,ty⟩:=h;refine⟨World.cell?_setCell_same w _ _ c0,qP c1 (Zu (by omega)),fun o=>by simp[fr o],fun i hi=>?_,fun i hi=>qP (tab i hi) (Zu (by omega)),NO ty⟩;obtain⟨y,hy⟩:=ex i hi;exact⟨y,qP hy (Zu (by omega))⟩
theorem Chg.own (w:World)(b o:Nat)(v:Value):Chg b (b+1) w (w.setCell ⟨b,o,none⟩ v):=
 Chg.setCell (p:=⟨b,o,none⟩) (Chg.refl b (b+1) w) (Or.inl ⟨Nat.le_refl _,Nat.lt_succ_self _⟩) v
theorem YL (w:World)(b:Nat)(d s:Int)(h:Sm w b d s 0):
  Calls Tryz.prog 101 #[.pointer (some (zd b))] w fun e w'=>e= .returned (.tuple #[])∧Sm w' b d s 256∧Chg b (b+1) w w':=by
 have HS:Hid (Sm w b d s 0):=h;clear h;go_enter Tryz.func101,Tryz.ntmps101;go_wp2;go_loopw [3] (fun i wr=> ∃k:Nat,k≤256∧i=za k∧Sm wr b d s k∧Chg b (b+1) w wr) (fun i _=>256-(intOf i).toNat)
 case atStart=>exact⟨0,Nat.zero_le _,rfl,HS.out,Chg.refl _ _ _⟩
 case round=>
  obtain⟨k,hk,rfl,hs,hc⟩:=hrel;clear HS;by_cases hlt:k<256
  ·have hi:(k:Int)<256:=by omega
   obtain⟨x,cx⟩:=hs.ex k hlt;have fx:=hs.fr (3+k);have HR:Hid (Sm (wr.setCell ⟨b,3+k,none⟩ (.int .u32 (qI 8 k 0:Nat))) b d s (k+1)):=hs.put hlt;have HC:Hid (Chg b (b+1) w (wr.setCell ⟨b,3+k,none⟩ (.int .u32 (qI 8 k 0:Nat)))):=hc.setCell (Or.inl ⟨Nat.le_refl _,Nat.lt_succ_self _⟩) _;have HW:Hid (IntKind.u32.wrap (k:Int)=(k:Int)):=by show _=_;rw[IntKind.wrap_u32'];omega
   clear hs hc;go_wp2;go_region_with (go_at_call 126;rw[HW.out];refine(XH _ k (by omega)).mono ?_;rintro e w1 ⟨rfl,rfl⟩)
   all_goals
    go_wp2
    go_roundw
    case rel=>exact⟨k+1,by omega,by go_num,HR.out.drew,HC.out.drew⟩
    case measure=>simp[intOf];omega
  ·obtain rfl:k=256:=by omega
   have HR:Hid (Sm wr b d s 256):=hs;clear hs;go_wp2;go_end0;exact⟨rfl,HR.out,hc⟩
theorem Us (w:World)(b:Nat)(h:Sm w b 0 0 0):
  Calls Tryz.prog 125 #[.pointer (some (zd b)),.func (.func 101) #[.pointer (some (zd b))] #[]] w fun e w'=>e= .returned (.tuple #[])∧Sm w' b 1 0 256∧Chg b (b+1) w w':=by
 have h1:=h.lock 1;have C1:Chg b (b+1) w (w.setCell ⟨b,1,none⟩ (.int .i32 1)):=Chg.own w b 1 _;have hl:=run_call_load (P:=Tryz.prog) Tryz.func141 (by kernel_rfl) (by kernel_rfl) (by kernel_rfl) .u32 (by kernel_rfl) h1.c0;have hnot: ∀(x:Bool) (w:World),(Op.unary .not (.bool x)).run Tryz.prog w= .ok (.bool (!x)) w:=fun _ _=>rfl;have c1:=h.c1;have f1:=h.fr 1;have H1:Hid (Sm (w.setCell ⟨b,1,none⟩ (.int .i32 1)) b 0 1 0):=h1
 have HC1:Hid _:=C1;clear h h1 C1;go_enter_defers Tryz.func125,Tryz.ntmps125;go_wp2_with (go_at_call 142;refine(aaQ ⟨b,1,none⟩ _ (by go_simp) (by go_simp)).mono ?_;rintro e w' ⟨rfl,rfl⟩);go_wp2_with (first|(go_at_call 124;go_in)|(go_at_call 101;refine(YL _ b 0 1 H1.out).mono ?_;rintro e w2 ⟨rfl,hs,hc⟩));have s1:=hs.drew.done 1;have HS2:Hid (Sm ((w2.drew.setCell (zd b) (.int .u32 1)).setCell ⟨b,1,none⟩ (.int .i32 0)) b 1 0 256):=s1.lock 0
 have HC2:Hid (Chg b (b+1) w ((w2.drew.setCell (zd b) (.int .u32 1)).setCell ⟨b,1,none⟩ (.int .i32 0))):=(((HC1.out.trans hc).drew).trans (Chg.own _ b 0 _)).trans (Chg.own _ b 1 _);have k0:=hs.c0;have k1:=s1.c1;have g0:=hs.fr 0;have g1:=s1.fr 1;clear hs hc s1;refine leaves_cons (f:=144) (args:= #[.pointer (some (zd b)),.bool true]) (by simp) (by simp[go_sem]) ?_;refine(Nk (zd b) (.int .u32 0) .returning _ k0 g0).mono ?_
 rintro e u' w'' ⟨rfl,rfl,rfl⟩;refine leaves_cons (f:=143) (args:= #[.pointer (some ⟨b,1,none⟩)]) (by simp[settle]) (by simp[go_sem]) ?_;refine(Ek ⟨b,1,none⟩ _ _ k1 g1).mono ?_;rintro e u' w'' ⟨rfl,rfl,rfl⟩;simp[Leaves,settle,results,Tryz.results125];exact⟨HS2.out,HC2.out⟩
theorem QB (w:World)(b:Nat)(h:Sm w b 0 0 0):
  Calls Tryz.prog 100 #[.pointer (some (zd b)),.func (.func 101) #[.pointer (some (zd b))] #[]] w fun e w'=>e= .returned (.tuple #[])∧Sm w' b 1 0 256∧Chg b (b+1) w w':=by
 have hl:=run_call_load (P:=Tryz.prog) Tryz.func141 (by kernel_rfl) (by kernel_rfl) (by kernel_rfl) .u32 (by kernel_rfl) h.c0;have hnot: ∀(x:Bool) (w:World),(Op.unary .not (.bool x)).run Tryz.prog w= .ok (.bool (!x)) w:=fun _ _=>rfl;have HS:Hid (Sm w b 0 0 0):=h;clear h;go_enter Tryz.func100,Tryz.ntmps100;go_wp2_with (first|(go_at_call 125;refine(Us _ b HS.out).mono ?_;rintro e w' ⟨rfl,hs,hc⟩)|(go_at_call 124;go_in))
 go_end0;exact⟨rfl,hs,hc⟩
theorem aar (r d:Nat)(hd:d<256):bits .xor .u8 ((r:Int) % 256) (d:Int)=((r % 256^^^d:Nat):Int):=by
 have:=u8_xor_nat (r % 256) d (by omega) hd;rw[←this];congr 1
theorem EN (r t:Nat)(hr:r<4294967296)(ht:t<4294967296):bits .xor .u32 ((r:Int)/256) (t:Int)=((r/256^^^t:Nat):Int):=by
 have:=u32_xor_nat (r/256) t (by omega) ht;rw[←this];congr 1
theorem XM (a:Nat)(ha:a<4294967296):bits .xor .u32 IntKind.u32.max (a:Int)=((4294967295-a:Nat):Int):=by
 have h:IntKind.u32.max=4294967295:=by decide
 rw[h];exact adY a ha
theorem ac0 (w:World)(b c:Nat)(hc:c≤4294967295)(h:Sm w b 0 0 0)(xs:List Int)(g off cap:Nat)(hB:Byt xs)(hl:xs.length≤9223372036854775807)(hg:g≠b)
  (h1: ∀i,i<xs.length→w.cell? ⟨g,off+i,none⟩=some (zb (xs.getD i 0))):
  Calls Tryz.prog 62 #[.pointer (some (zd b)),.int .u32 c,.slice (some ⟨g,off,none⟩) xs.length cap] w fun e w'=>e= .returned (.int .u32 (4294967295-reg (4294967295-c) (nb xs):Nat))∧Chg b (b+1) w w':=by
 have HS:Hid (Sm w b 0 0 0):=h;have HB:Hid (Byt xs):=hB;have HG:Hid (∀i,i<xs.length→w.cell? ⟨g,off+i,none⟩=some (zb (xs.getD i 0))):=h1;clear h hB h1;have hmf: ∀(fn:Fn) (first cap:Array Value) (w:World),(Instr.makeFunc fn first cap).run Tryz.prog w= .ok (.func fn first cap) w:=fun _ _ _ _=>rfl;have HN:Hid (bits .xor .u32 IntKind.u32.max (c:Int)=((4294967295-c:Nat):Int)):=XM c (by omega);go_enter Tryz.func62,Tryz.ntmps62
 go_wp2_with (go_at_call 100;refine(QB _ b HS.out).mono ?_;rintro e w1 ⟨rfl,hs,hch⟩);go_wp2;go_loop [7,20] (fun y i=> ∃k:Nat,k≤xs.length∧i=za k∧y= .int .u32 (reg (4294967295-c) (nb (xs.take k)):Nat)) (fun _ i=>xs.length-(intOf i).toNat)
 case atStart=>exact⟨0,Nat.zero_le _,rfl,by rw[HN.out];rfl⟩
 case round=>
  obtain⟨k,hk,rfl,rfl⟩:=hrel;clear HS HN;have b1:=Je (nb (xs.take k)) (4294967295-c) (by omega);by_cases hlt:k<xs.length
  ·have c1:=hch.cell (HG.out k hlt) (by omega);have b3:=HB.out.getD k;have hi:(k:Int)<(xs.length:Int):=by omega
   have HE:Hid (reg (4294967295-c) (nb (xs.take (k+1)))=qI 8 (reg (4294967295-c) (nb (xs.take k))) (xs.getD k 0).toNat):=Qg _ xs k hlt;generalize reg (4294967295-c) (nb (xs.take k))=r at*;obtain⟨d,hd⟩: ∃d:Nat,xs.getD k 0=(d:Int):=⟨(xs.getD k 0).toNat,by omega⟩;rw[hd] at c1 b3;have hx:=aar r d (by omega);have ht:r % 256^^^d<256:=Nat.xor_lt_two_pow (n:=8) (by omega) (by omega);have HE':Hid (reg (4294967295-c) (nb (xs.take (k+1)))=r/256^^^qI 8 (r % 256^^^d) 0):=by
    show _=_;rw[HE.out,hd];exact KL r d (by omega)
   clear HE hd;generalize r % 256^^^d=t at*;have ct:=hs.tab t ht;have bt:=Xt 8 t 0 (by omega);generalize qI 8 t 0=z at*;have hz:=EN r z b1 bt;clear hs hch;go_wp2;go_round
   case rel=>exact⟨k+1,by omega,by go_num,by rw[HE'.out]⟩
   case measure=>simp[intOf];omega
  ·obtain rfl:k=xs.length:=by omega
   rw[List.take_length] at*;generalize hr:reg (4294967295-c) (nb xs)=r at*;have HR:Hid (reg (4294967295-c) (nb xs)=r):=hr;have HN:Hid (bits .xor .u32 IntKind.u32.max (r:Int)=((4294967295-r:Nat):Int)):=XM r (by omega);clear hs hr;go_wp2;go_ret;exact⟨by rw[HR.out,←HN.out];rfl,hch⟩
theorem acZ (w:World)(b c:Nat)(hc:c≤4294967295)(h:Sm w b 0 0 0)(ao:Option Addr)(cap:Nat):
  Calls Tryz.prog 62 #[.pointer (some (zd b)),.int .u32 c,.slice ao 0 cap] w fun e w'=>e= .returned (.int .u32 (4294967295-(4294967295-c):Nat))∧Chg b (b+1) w w':=by
 have HS:Hid (Sm w b 0 0 0):=h;clear h;have hmf: ∀(fn:Fn) (first cap:Array Value) (w:World),(Instr.makeFunc fn first cap).run Tryz.prog w= .ok (.func fn first cap) w:=fun _ _ _ _=>rfl;have hn:=XM c (by omega);have hn2:=XM (4294967295-c) (by omega);generalize 4294967295-c=r at*;generalize 4294967295-r=q at*;go_enter Tryz.func62,Tryz.ntmps62;go_wp2_with (go_at_call 100;refine(QB _ b HS.out).mono ?_;rintro e w1 ⟨rfl,hs,hch⟩)
 clear hs HS;go_wp2;refine wp_loop_rounds 1 ?_;rw[rounds_succ];go_wp2;go_ret;exact⟨rfl,hch⟩
theorem acd (w:World)(b c:Nat)(hc:c≤4294967295)(h:Sm w b 0 0 0){lo hi:Nat}{a:Value}{xs:List Int}(hB:Byt xs)(h1:zr w lo hi .u8 a xs)(hb:b<lo∨hi≤b):
  Calls Tryz.prog 62 #[.pointer (some (zd b)),.int .u32 c,a] w fun e w'=>e= .returned (.int .u32 (4294967295-reg (4294967295-c) (nb xs):Nat))∧Chg b (b+1) w w':=by
 obtain⟨ao,cap,rfl,hl,_,h1⟩:=h1;rcases h1 with rfl|⟨x,off,rfl,hx1,hx2,h1⟩
 ·exact acZ w b c hc h ao cap
 ·exact ac0 w b c hc h xs x off cap hB hl (by omega) h1
def ZS:Array Value:=(.int .u32 0:: .int .i32 0:: .int .u32 0::List.replicate 256 (Value.int .u32 0)).toArray
theorem Tryz.infoSm:(Tryz.prog.info? 132).map (fun i=>(i.zero,i.size,i.bytes))=some (some (.agg ZS),259,1036):=by kernel_rfl
theorem Uh (w:World):(zeroValue 132).run Tryz.prog w= .ok (.agg ZS) w:=by
 obtain⟨i,hi,hz0,hz1,hz2⟩:=info_parts Tryz.infoSm;simp only[zeroValue,typeInfo,Sem.run_bind];simp[hi,hz0]
theorem adx:ZS[0]?=some (.int .u32 0):=by unfold ZS;rw[List.getElem?_toArray,List.getElem?_cons_zero]
theorem ady:ZS[1]?=some (.int .i32 0):=by unfold ZS;rw[List.getElem?_toArray,List.getElem?_cons_succ,List.getElem?_cons_zero]
theorem adz (i:Nat)(hi:i<256):ZS[3+i]?=some (.int .u32 0):=by
 unfold ZS;rw[List.getElem?_toArray,show 3+i=i+1+1+1 by omega,List.getElem?_cons_succ,List.getElem?_cons_succ,List.getElem?_cons_succ,List.getElem?_replicate,if_pos hi]
theorem Sm.new (w:World):Sm (w.alloc (.cells ZS 132)) w.heap.size 0 0 0:=by
 have hn:=zh w (.cells ZS 132);have hc: ∀o,(w.alloc (.cells ZS 132)).cell? ⟨w.heap.size,o,none⟩=ZS[o]?:=by
  intro o;simp only[World.cell?,hn];simp
 refine⟨by rw[hc,adx],by rw[hc,ady],fun o=>?_,fun i hi=>⟨.int .u32 0,by rw[hc,adz i hi]⟩,fun i hi=>by omega,⟨_,hn⟩⟩;simp only[World.frozen?,hn];simp
theorem YJ (w:World)(c:Int){lo hi:Nat}{a:Value}{xs:List Int}(hB:Byt xs)(h1:zr w lo hi .u8 a xs)(hb:hi≤w.heap.size):
  Calls Tryz.prog 200 #[za c,a] w fun e w'=>e= .returned (za (JT c xs))∧Chg 0 0 w w':=by
 by_cases h:c<0∨c>4294967295
 ·have hv:JT c xs= -1:=by unfold JT;rw[if_pos h]
  rw[hv];by_cases h0:c<0
  ·go_enter Tryz.func200,Tryz.ntmps200;go_wp2;go_ret;exact⟨rfl,Chg.refl _ _ _⟩
  ·have h2:c>4294967295:=by omega
   go_enter Tryz.func200,Tryz.ntmps200;go_wp2;go_ret;exact⟨rfl,Chg.refl _ _ _⟩
 ·obtain⟨n,rfl⟩: ∃n:Nat,c=(n:Int):=⟨c.toNat,by omega⟩;have hn:n≤4294967295:=by omega
  have hv:JT n xs=4294967295-(reg (4294967295-n) (nb xs):Nat):=by unfold JT;rw[if_neg h];rfl
  rw[hv];clear hv h;have h0: ¬(n:Int)<0:=by omega
  have h2: ¬(n:Int)>4294967295:=by omega
  have hlt:=Je (nb xs) (4294967295-n) (by omega);have hzs:=Uh;have HW:Hid (IntKind.u32.wrap (n:Int)=(n:Int)):=by show _=_;rw[IntKind.wrap_u32'];omega
  go_enter Tryz.func200,Tryz.ntmps200;go_wp2_with fail;have hA:Chg 0 0 w (w.alloc (.cells ZS 132)):=Chg.alloc (Chg.refl 0 0 w) _;have hS:=Sm.new w;generalize w.alloc (.cells ZS 132)=w1 at*
  try rw[HW.out]
  refine(acd _ w.heap.size n hn hS hB (h1.chg hA (by omega)) (Or.inr hb)).mono ?_;rintro e w2 ⟨rfl,hc⟩;have hC:Chg 0 0 w w2:=hA.step hc (Or.inr (Or.inl (Nat.le_refl _)));generalize hr:reg (4294967295-n) (nb xs)=r at*;have HR:Hid (reg (4294967295-n) (nb xs)=r):=hr;have HE:Hid (((4294967295-r:Nat):Int)=4294967295-(r:Int)):=by show _=_;omega
  clear hc hS hA hr;go_wp2;go_ret;exact⟨by rw[HR.out,←HE.out];rfl,hC⟩
theorem Ve (w:World){lo hi:Nat}{a:Value}{xs:List Int}(hB:Byt xs)(h1:zr w lo hi .u8 a xs)(hb:hi≤w.heap.size):
  Calls Tryz.prog 199 #[a] w fun e w'=>e= .returned (za (jW xs))∧Chg 0 0 w w':=by
 go_enter Tryz.func199,Tryz.ntmps199;go_wp2_with fail;refine(YJ _ 0 hB h1 hb).mono ?_;rintro e w1 ⟨rfl,hc⟩;rw[U3];go_wp2;go_ret;exact⟨rfl,hc⟩
def SmR (w:World) (b:Nat):Prop:=Sm w b 0 0 0∨Sm w b 1 0 256
theorem Ej (w:World)(b:Nat)(h:Sm w b 1 0 256):
  Calls Tryz.prog 100 #[.pointer (some (zd b)),.func (.func 101) #[.pointer (some (zd b))] #[]] w fun e w'=>e= .returned (.tuple #[])∧Sm w' b 1 0 256∧Chg b (b+1) w w':=by
 have hl:=run_call_load (P:=Tryz.prog) Tryz.func141 (by kernel_rfl) (by kernel_rfl) (by kernel_rfl) .u32 (by kernel_rfl) h.c0;have hnot: ∀(x:Bool) (w:World),(Op.unary .not (.bool x)).run Tryz.prog w= .ok (.bool (!x)) w:=fun _ _=>rfl;have HS:Hid (Sm w b 1 0 256):=h;clear h;go_enter Tryz.func100,Tryz.ntmps100;go_wp2_with (go_at_call 124;go_in);go_end0;exact⟨rfl,HS.out,Chg.refl _ _ _⟩
theorem Vt (w:World)(b:Nat)(h:SmR w b):
  Calls Tryz.prog 100 #[.pointer (some (zd b)),.func (.func 101) #[.pointer (some (zd b))] #[]] w fun e w'=>e= .returned (.tuple #[])∧Sm w' b 1 0 256∧Chg b (b+1) w w':=by
 rcases h with h|h
 ·exact QB w b h
 ·exact Ej w b h
theorem acb (w:World)(b c:Nat)(hc:c≤4294967295)(h:SmR w b)(xs:List Int)(g off cap:Nat)(hB:Byt xs)(hl:xs.length≤9223372036854775807)(hg:g≠b)
  (h1: ∀i,i<xs.length→w.cell? ⟨g,off+i,none⟩=some (zb (xs.getD i 0))):
  Calls Tryz.prog 62 #[.pointer (some (zd b)),.int .u32 c,.slice (some ⟨g,off,none⟩) xs.length cap] w fun e w'=>e= .returned (.int .u32 (4294967295-reg (4294967295-c) (nb xs):Nat))∧Sm w' b 1 0 256∧Chg b (b+1) w w':=by
 have HS:Hid (SmR w b):=h;have HB:Hid (Byt xs):=hB;have HG:Hid (∀i,i<xs.length→w.cell? ⟨g,off+i,none⟩=some (zb (xs.getD i 0))):=h1;clear h hB h1;have hmf: ∀(fn:Fn) (first cap:Array Value) (w:World),(Instr.makeFunc fn first cap).run Tryz.prog w= .ok (.func fn first cap) w:=fun _ _ _ _=>rfl;have HN:Hid (bits .xor .u32 IntKind.u32.max (c:Int)=((4294967295-c:Nat):Int)):=XM c (by omega);go_enter Tryz.func62,Tryz.ntmps62
 go_wp2_with (go_at_call 100;refine(Vt _ b HS.out).mono ?_;rintro e w1 ⟨rfl,hs,hch⟩;have HSm:Hid (Sm w1 b 1 0 256):=hs);go_wp2;go_loop [7,20] (fun y i=> ∃k:Nat,k≤xs.length∧i=za k∧y= .int .u32 (reg (4294967295-c) (nb (xs.take k)):Nat)) (fun _ i=>xs.length-(intOf i).toNat)
 case atStart=>exact⟨0,Nat.zero_le _,rfl,by rw[HN.out];rfl⟩
 case round=>
  obtain⟨k,hk,rfl,rfl⟩:=hrel;clear HS HN;have b1:=Je (nb (xs.take k)) (4294967295-c) (by omega);by_cases hlt:k<xs.length
  ·have c1:=hch.cell (HG.out k hlt) (by omega);have b3:=HB.out.getD k;have hi:(k:Int)<(xs.length:Int):=by omega
   have HE:Hid (reg (4294967295-c) (nb (xs.take (k+1)))=qI 8 (reg (4294967295-c) (nb (xs.take k))) (xs.getD k 0).toNat):=Qg _ xs k hlt;generalize reg (4294967295-c) (nb (xs.take k))=r at*;obtain⟨d,hd⟩: ∃d:Nat,xs.getD k 0=(d:Int):=⟨(xs.getD k 0).toNat,by omega⟩;rw[hd] at c1 b3;have hx:=aar r d (by omega);have ht:r % 256^^^d<256:=Nat.xor_lt_two_pow (n:=8) (by omega) (by omega);have HE':Hid (reg (4294967295-c) (nb (xs.take (k+1)))=r/256^^^qI 8 (r % 256^^^d) 0):=by
    show _=_;rw[HE.out,hd];exact KL r d (by omega)
   clear HE hd;generalize r % 256^^^d=t at*;have ct:=hs.tab t ht;have bt:=Xt 8 t 0 (by omega);generalize qI 8 t 0=z at*;have hz:=EN r z b1 bt;clear hs hch;go_wp2;go_round
   case rel=>exact⟨k+1,by omega,by go_num,by rw[HE'.out]⟩
   case measure=>simp[intOf];omega
  ·obtain rfl:k=xs.length:=by omega
   rw[List.take_length] at*;generalize hr:reg (4294967295-c) (nb xs)=r at*;have HR:Hid (reg (4294967295-c) (nb xs)=r):=hr;have HN:Hid (bits .xor .u32 IntKind.u32.max (r:Int)=((4294967295-r:Nat):Int)):=XM r (by omega);clear hs hr;go_wp2;go_ret;exact⟨by rw[HR.out,←HN.out];rfl,HSm.out,hch⟩
theorem Kg (w:World)(q c s:Int)(m0:w.cell? (zd 0)=some (zb 106))(m1:w.cell? ⟨0,1,none⟩=some (zb 108))(m2:w.cell? ⟨0,2,none⟩=some (zb 111))(m3:w.cell? ⟨0,3,none⟩=some (zb 103)):
  Calls Tryz.prog 63 #[.agg #[za q,za c,za s]] w fun e w'=>e= .returned (.agg #[zb 106,zb 108,zb 111,zb 103,za 4,za c,za q,za s])∧Chg 0 0 w w':=by
 have C0:Chg 0 0 w ((w.alloc (.cells #[za q,za c,za s] 111)).alloc (.cells #[zb 0,zb 0,zb 0,zb 0,za 0,za 0,za 0,za 0] 140)):=(Chg.alloc (Chg.refl 0 0 w) _).alloc _;have B0:((w.alloc (.cells #[za q,za c,za s] 111)).alloc (.cells #[zb 0,zb 0,zb 0,zb 0,za 0,za 0,za 0,za 0] 140)).heap[w.heap.size]?=some (.cells #[za q,za c,za s] 111 (0,0)):=VH _ _ _;have B1:((w.alloc (.cells #[za q,za c,za s] 111)).alloc (.cells #[zb 0,zb 0,zb 0,zb 0,za 0,za 0,za 0,za 0] 140)).heap[w.heap.size+1]?=some (.cells #[zb 0,zb 0,zb 0,zb 0,za 0,za 0,za 0,za 0] 140 (0,0)):=Ka _ _ _
 have hlt:w.heap.size+1<((w.alloc (.cells #[za q,za c,za s] 111)).alloc (.cells #[zb 0,zb 0,zb 0,zb 0,za 0,za 0,za 0,za 0] 140)).heap.size:=(gLt B1);have HM:Hid (w.cell? (zd 0)=some (zb 106)∧w.cell? ⟨0,1,none⟩=some (zb 108)∧w.cell? ⟨0,2,none⟩=some (zb 111)∧w.cell? ⟨0,3,none⟩=some (zb 103)):=⟨m0,m1,m2,m3⟩;obtain⟨k0,k1,k2⟩:=K3 B0;have HC0:Hid (Chg 0 0 w ((w.alloc (.cells #[za q,za c,za s] 111)).alloc (.cells #[zb 0,zb 0,zb 0,zb 0,za 0,za 0,za 0,za 0] 140))):=C0
 have HB1:Hid (((w.alloc (.cells #[za q,za c,za s] 111)).alloc (.cells #[zb 0,zb 0,zb 0,zb 0,za 0,za 0,za 0,za 0] 140)).heap[w.heap.size+1]?=some (.cells #[zb 0,zb 0,zb 0,zb 0,za 0,za 0,za 0,za 0] 140 (0,0))):=B1;have HS0:Hid (((w.alloc (.cells #[za q,za c,za s] 111)).alloc (.cells #[zb 0,zb 0,zb 0,zb 0,za 0,za 0,za 0,za 0] 140)).drew.cell? (zd w.heap.size)=some (za q)∧((w.alloc (.cells #[za q,za c,za s] 111)).alloc (.cells #[zb 0,zb 0,zb 0,zb 0,za 0,za 0,za 0,za 0] 140)).drew.cell? ⟨w.heap.size,1,none⟩=some (za c)∧((w.alloc (.cells #[za q,za c,za s] 111)).alloc (.cells #[zb 0,zb 0,zb 0,zb 0,za 0,za 0,za 0,za 0] 140)).drew.cell? ⟨w.heap.size,2,none⟩=some (za s)):=⟨k0,k1,k2⟩
 clear C0 B0 B1 m0 m1 m2 m3 k0 k1 k2;go_enter Tryz.func63,Tryz.ntmps63;go_upto_region 1 with fail;generalize ((w.alloc (.cells #[za q,za c,za s] 111)).alloc (.cells #[zb 0,zb 0,zb 0,zb 0,za 0,za 0,za 0,za 0] 140))=wa at*;refine zp (fun w':World=>w'.cell? (zd w.heap.size)=some (za q)∧w'.cell? ⟨w.heap.size,1,none⟩=some (za c)∧w'.cell? ⟨w.heap.size,2,none⟩=some (za s)) (by kernel_rfl) ?_;refine hTk 0 (.pointer (some ⟨w.heap.size,1,none⟩)) rfl (fun w' hw'=>by have h4:=hw'.1;have h5:=hw'.2.1;have h6:=hw'.2.2;go_simp) HS0.out ?_
 go_simp;refine hTk 1 (za c) rfl (fun w' hw'=>by have h4:=hw'.1;have h5:=hw'.2.1;have h6:=hw'.2.2;go_simp) HS0.out ?_;go_simp;refine hTk 2 (.pointer (some (zd w.heap.size))) rfl (fun w' hw'=>by have h4:=hw'.1;have h5:=hw'.2.1;have h6:=hw'.2.2;go_simp) HS0.out ?_;go_simp;refine hTk 3 (za q) rfl (fun w' hw'=>by have h4:=hw'.1;have h5:=hw'.2.1;have h6:=hw'.2.2;go_simp) HS0.out ?_;go_simp;refine hTk 5 (.pointer (some ⟨w.heap.size,2,none⟩)) rfl (fun w' hw'=>by have h4:=hw'.1;have h5:=hw'.2.1;have h6:=hw'.2.2;go_simp) HS0.out ?_
 go_simp;refine hTk 6 (za s) rfl (fun w' hw'=>by have h4:=hw'.1;have h5:=hw'.2.1;have h6:=hw'.2.2;go_simp) HS0.out ?_;go_simp;have HC1:Hid (Chg 0 0 w wa.drew):=HC0.out.drew;have HB2:Hid (wa.drew.heap[w.heap.size+1]?=some (.cells #[zb 0,zb 0,zb 0,zb 0,za 0,za 0,za 0,za 0] 140 (0,0))):=HB1.out;have hlt2:w.heap.size+1<wa.drew.heap.size:=hlt;generalize wa.drew=w1 at*;have hN:=jR w1 4 c q (HC1.out.cell HM.out.1 (by omega)) (HC1.out.cell HM.out.2.1 (by omega)) (HC1.out.cell HM.out.2.2.1 (by omega)) (HC1.out.cell HM.out.2.2.2 (by omega))
 refine zg 4 rfl rfl (by kernel_rfl) ?_;refine zl 102 #[za 4,za c,za q] (by first|kernel_rfl|go_simp) hN ?_;rintro e w2 ⟨rfl,h2⟩;have HS2:Hid (_∧_∧_):=⟨h2.cell HS0.out.1 (by omega),h2.cell HS0.out.2.1 (by omega),h2.cell HS0.out.2.2 (by omega)⟩;have HC2:Hid _:=HC1.out.trans h2;have HB3:Hid (w2.heap[w.heap.size+1]?=some (.cells #[zb 0,zb 0,zb 0,zb 0,za 0,za 0,za 0,za 0] 140 (0,0))):=(h2.block (w.heap.size+1) hlt2 (by omega)).trans HB2.out
 refine⟨_,rfl,HS2.out,?_⟩;clear hN h2;go_simp;refine hTk 7 (.agg #[zb 106,zb 108,zb 111,zb 103,za 4,za c,za q,za s]) rfl (fun w' hw'=>by have h4:=hw'.1;have h5:=hw'.2.1;have h6:=hw'.2.2;go_simp) HS2.out ?_;go_simp;refine zg 8 rfl rfl (by kernel_rfl) ?_;refine wp_store_row 140 (.tmp 2) (.tmp 10) rfl rfl (w.heap.size+1) rfl [zb 106,zb 108,zb 111,zb 103,za 4,za c,za q,za s] [zb 0,zb 0,zb 0,zb 0,za 0,za 0,za 0,za 0] 140 rfl HB3.out rfl (by kernel_rfl) (by simp[Value.oneCell']) ?_
 intro w3 hb3 hc3;have HS3:Hid (_∧_∧_):=⟨hc3.cell HS2.out.1 (by omega),hc3.cell HS2.out.2.1 (by omega),hc3.cell HS2.out.2.2 (by omega)⟩;have HC3:Hid _:=HC2.out.step hc3 (by omega);have HB4:Hid _:=hb3;refine⟨HS3.out,?_⟩;clear hb3 hc3;refine zt (by kernel_rfl) (NoPanic.normal ?_);go_wp2;have hb:=HB4.out;exact bodyPost_ret (v:= .agg #[zb 106,zb 108,zb 111,zb 103,za 4,za c,za q,za s]) (by simp[results,Tryz.results63,go_sem,World.cell?,hb]) rfl ⟨rfl,HC3.out⟩
theorem JC (w:World)(l v:Int):Calls Tryz.prog 92 #[za l,za v] w fun e w'=>e= .returned (.bool (fol l v))∧w'=w:=by
 unfold fol;by_cases h1:l<v
 ·by_cases h2:v<2048
  ·rw[decide_eq_true h1,decide_eq_true h2];go_enter Tryz.func92,Tryz.ntmps92;go_wp2;go_ret;exact⟨rfl,rfl⟩
  ·rw[decide_eq_true h1,decide_eq_false h2];go_enter Tryz.func92,Tryz.ntmps92;go_wp2;go_ret;exact⟨rfl,rfl⟩
 ·rw[decide_eq_false h1];go_enter Tryz.func92,Tryz.ntmps92;go_wp2;go_ret;exact⟨rfl,rfl⟩
theorem aaO (w:World)(x:Int):Calls Tryz.prog 118 #[za x] w fun e w'=>e= .returned (.bool false)∧w'=w:=by
 have hne:(x !=x)=false:=by simp
 go_enter Tryz.func118,Tryz.ntmps118;go_wp2;go_ret;exact⟨rfl,rfl⟩
theorem Ni (w:World)(x:Int):Calls Tryz.prog 138 #[za x] w fun e w'=>e= .returned (.bool false)∧w'=w:=by
 have hne:(x !=x)=false:=by simp
 go_enter Tryz.func138,Tryz.ntmps138;go_wp2;go_ret;exact⟨rfl,rfl⟩
theorem Nf (w:World)(x y:Int):Calls Tryz.prog 117 #[za x,za y] w fun e w'=>e= .returned (.bool (decide (x<y)))∧w'=w:=by
 go_enter Tryz.func117,Tryz.ntmps117;go_wp2_with fail;refine(Ni _ x).mono ?_;rintro e w1 ⟨rfl,rfl⟩;go_wp2;go_ret;exact⟨rfl,rfl⟩
def Bs (xs:List Int) (v:Int) (i j:Nat):Prop:=i≤j∧j≤xs.length∧(∀m,m<i→xs.getD m 0<v)∧ ∀m,j≤m→m<xs.length→v≤xs.getD m 0
theorem zK.lt {xs:List Int}(h:zK xs xs.length): ∀d m:Nat,m+d+1<xs.length→xs.getD m 0<xs.getD (m+d+1) 0:=by
 intro d
 induction d with
 |zero=>
  intro m hm;have:=(jv.1 (h (m+1) (by omega))).1;rwa [show qg xs (m+1)=xs.getD m 0 from by unfold qg;rw[if_neg (by omega)];rfl] at this
 |succ d ih=>
  intro m hm;have h1:=ih m (by omega);have h2:=(jv.1 (h (m+(d+1)+1) (by omega))).1;rw[show qg xs (m+(d+1)+1)=xs.getD (m+d+1) 0 from by unfold qg;rw[if_neg (by omega)];rfl] at h2;omega
theorem Bs.start (xs:List Int)(v:Int):Bs xs v 0 xs.length:=⟨Nat.zero_le _,Nat.le_refl _,fun m h=>absurd h (Nat.not_lt_zero m),fun m h1 h2=>by omega⟩
theorem zK.le {xs:List Int}(h:zK xs xs.length){a b:Nat}(hab:a≤b)(hb:b<xs.length):xs.getD a 0≤xs.getD b 0:=by
 by_cases e:a=b
 ·subst e;exact Int.le_refl _
 ·obtain⟨d,rfl⟩: ∃d,b=a+d+1:=⟨b-a-1,by omega⟩;exact Int.le_of_lt (h.lt d a hb)
theorem Bs.up {xs:List Int}{v:Int}{i j m:Nat}(h:Bs xs v i j)(hr:zK xs xs.length)(_:i≤m)(h2:m<j)(hx:xs.getD m 0<v):Bs xs v (m+1) j:=
 ⟨by omega,h.2.1,fun k hk=>Int.lt_of_le_of_lt (hr.le (by omega) (by have:=h.2.1;omega)) hx,h.2.2.2⟩
theorem Bs.down {xs:List Int}{v:Int}{i j m:Nat}(h:Bs xs v i j)(hr:zK xs xs.length)(h1:i≤m)(h2:m<j)(hx: ¬xs.getD m 0<v):Bs xs v i m:=
 ⟨h1,by have:=h.2.1;omega,h.2.2.1,fun k hk hk2=>Int.le_trans (Int.not_lt.1 hx) (hr.le hk hk2)⟩
theorem Bs.found {xs:List Int}{v:Int}{i:Nat}(h:Bs xs v i i)(hr:zK xs xs.length):v∈xs↔i<xs.length∧xs.getD i 0=v:=by
 constructor
 ·intro hm;obtain⟨m,hm,he⟩:=List.mem_iff_getElem.1 hm;have he':xs.getD m 0=v:=by rw[←he];simp[List.getD_eq_getElem?_getD,hm]
  have h1: ¬m<i:=fun hl=>by have:=h.2.2.1 m hl;omega
  have hil:i<xs.length:=by omega
  have h2:=h.2.2.2 i (Nat.le_refl _) hil;have h3:=hr.le (a:=i) (b:=m) (by omega) hm;exact⟨hil,by omega⟩
 ·rintro⟨hl,he⟩;rw[←he];simp[List.getD_eq_getElem?_getD,hl]
theorem Ey (w:World)(xs:List Int)(v:Int)(b off cap:Nat)(hl:xs.length≤1048576)(hr:zK xs xs.length)
  (h1: ∀i,i<xs.length→w.cell? ⟨b,off+i,none⟩=some (za (xs.getD i 0))):
  Calls Tryz.prog 93 #[.slice (some ⟨b,off,none⟩) xs.length cap,za v] w fun e w'=> ∃p,e= .returned (.tuple #[za p,.bool (decide (v∈xs))])∧w'=w:=by
 have HR:Hid (zK xs xs.length):=hr;clear hr;go_enter Tryz.func93,Tryz.ntmps93;go_wp2;go_loopw [7,8] (fun i j wr=>wr=w∧ ∃a c:Nat,i=za a∧j=za c∧Bs xs v a c) (fun i j _=>(intOf j).toNat-(intOf i).toNat)
 case atStart=>exact⟨rfl,0,xs.length,rfl,rfl,Bs.start xs v⟩
 case round=>
  obtain⟨rfl,a,c,rfl,rfl,hB⟩:=hrel;have h01:=hB.1;have h02:=hB.2.1;have HB:Hid (Bs xs v a c):=hB;clear hB;by_cases hlt:a<c
  ·have hm1:a≤(a+c)/2:=by omega
   have hm2:(a+c)/2<c:=by omega
   have c1:wr.cell? ⟨b,off+(a+c)/2,none⟩=some (za (xs.getD ((a+c)/2) 0)):=h1 _ (by omega);have hik:((a:Int)+c)/2<(xs.length:Int):=by omega
   have hup:=HB.out.up HR.out hm1 hm2;have hdn:=HB.out.down HR.out hm1 hm2;generalize xs.getD ((a+c)/2) 0=x at*;clear h1;go_wp2_with fail;refine(Nf _ x v).mono ?_;rintro e w1 ⟨rfl,rfl⟩;by_cases hx:x<v
   ·have Hn:Hid (Bs xs v ((a+c)/2+1) c):=hup hx;rw[decide_eq_true hx];clear hup hdn hx c1;go_wp2;go_roundw
    case rel=>exact⟨trivial,(a+c)/2+1,c,by first|go_num|(congr 1;omega),rfl,Hn.out⟩
    case measure=>simp[intOf];omega
   ·have Hn:Hid (Bs xs v a ((a+c)/2)):=hdn (by omega);rw[decide_eq_false hx];clear hup hdn hx c1;go_wp2;go_roundw
    case rel=>exact⟨trivial,a,(a+c)/2,rfl,by first|go_num|(congr 1;omega),Hn.out⟩
    case measure=>simp[intOf];omega
  ·obtain rfl:a=c:=by omega
   have hF:=HB.out.found HR.out;by_cases hl2:a<xs.length
   ·have c1:wr.cell? ⟨b,off+a,none⟩=some (za (xs.getD a 0)):=h1 _ hl2;have hik:(a:Int)<(xs.length:Int):=by omega
    by_cases hx:xs.getD a 0=v
    ·have Hn:Hid (decide (v∈xs)=true):=decide_eq_true (hF.2 ⟨hl2,hx⟩);have hxe:(xs.getD a 0==v)=true:=by simpa using hx
     generalize xs.getD a 0=x at*;clear hF h1 hx;go_wp2;go_ret2;exact⟨_,by rw[Hn.out];rfl,rfl⟩
    ·have Hn:Hid (decide (v∈xs)=false):=decide_eq_false (fun h=>hx (hF.1 h).2);have hxe:(xs.getD a 0==v)=false:=by simpa using hx
     generalize xs.getD a 0=x at*;clear hF h1 hx;go_wp2_with fail;refine(aaO _ x).mono ?_;rintro e w1 ⟨rfl,rfl⟩;go_wp2;go_ret2;exact⟨_,by rw[Hn.out];rfl,rfl⟩
   ·have Hn:Hid (decide (v∈xs)=false):=decide_eq_false (fun h=>hl2 (hF.1 h).1);clear hF h1;go_wp2;go_ret2;exact⟨_,by rw[Hn.out];rfl,rfl⟩
theorem Ex (w:World)(v:Int)(ao:Option Addr)(cap:Nat):
  Calls Tryz.prog 93 #[.slice ao 0 cap,za v] w fun e w'=> ∃p,e= .returned (.tuple #[za p,.bool false])∧w'=w:=by
 go_enter Tryz.func93,Tryz.ntmps93;go_wp2;refine wp_loop_rounds 1 ?_;rw[rounds_succ];go_wp2;go_ret2;exact⟨_,rfl,rfl⟩
theorem UJ (w:World){lo hi:Nat}{a:Value}{xs:List Int}(v:Int)(hl:xs.length≤1048576)(hr:zK xs xs.length)(h1:zr w lo hi .i64 a xs):
  Calls Tryz.prog 93 #[a,za v] w fun e w'=> ∃p,e= .returned (.tuple #[za p,.bool (decide (v∈xs))])∧w'=w:=by
 obtain⟨ao,cap,rfl,_,_,h1⟩:=h1;rcases h1 with rfl|⟨x,off,rfl,_,_,h1⟩
 ·exact Ex w v ao cap
 ·exact Ey w xs v x off cap hl hr h1
theorem qx (w:World)(v l m:Int):Calls Tryz.prog 33 #[za v,za l,za m] w fun e w'=>e= .returned (.bool (decide (l≤v)&&decide (v≤m)))∧w'=w:=by
 by_cases h1:l≤v
 ·by_cases h2:v≤m
  ·rw[decide_eq_true h1,decide_eq_true h2];go_enter Tryz.func33,Tryz.ntmps33;go_wp2;go_ret;exact⟨rfl,rfl⟩
  ·rw[decide_eq_true h1,decide_eq_false h2];go_enter Tryz.func33,Tryz.ntmps33;go_wp2;go_ret;exact⟨rfl,rfl⟩
 ·rw[decide_eq_false h1];go_enter Tryz.func33,Tryz.ntmps33;go_wp2;go_ret;exact⟨rfl,rfl⟩
theorem KG (xs:List Int)(k:Nat):qg xs (k+1)=xs.getD k 0:=by unfold qg;rw[if_neg (by omega)];rfl
theorem KC (ps:List Wr)(k:Nat):(ps.map (·.1)).getD k 0=(ps.getD k (0,[])).1:=by
 simp only[List.getD_eq_getElem?_getD,List.getElem?_map]
 cases ps[k]?<;>rfl
theorem JX (w:World){lo hi:Nat}{a:Value}{t:Tx}(hl:Z3 t≤1048576)(h1:jI w lo hi a t):
  Calls Tryz.prog 60 #[a] w fun e w'=>e= .returned (.bool (qO t))∧Chg 0 0 w w':=by
 have hl1:t.homes.length≤1048576:=by have:=abL t.homes;unfold Z3 at hl;omega
 have hl2:t.revs.length≤1048576:=by unfold Z3 at hl;omega
 obtain⟨hv,rv,rfl,p1,v1⟩:=h1;obtain⟨po,pcap,rfl⟩:=p1.slice;obtain⟨ao,cap,rfl⟩:=v1.slice;have hA:Chg 0 0 w (w.alloc (.cells #[za t.seq,.slice po t.homes.length pcap,.slice ao t.revs.length cap] 35)):=Chg.alloc (Chg.refl 0 0 w) _;have B0:=zh w (.cells #[za t.seq,.slice po t.homes.length pcap,.slice ao t.revs.length cap] 35);have s0:(w.alloc (.cells #[za t.seq,.slice po t.homes.length pcap,.slice ao t.revs.length cap] 35)).heap.size=w.heap.size+1:=by simp
 obtain⟨⟨k0,k1,k2⟩,_⟩:=tri B0;have HP:Hid (qF w lo hi (.slice po t.homes.length pcap) t.homes):=p1;have HR:Hid (zr w lo hi .i64 (.slice ao t.revs.length cap) t.revs):=v1;have HA:Hid (Chg 0 0 w (w.alloc (.cells #[za t.seq,.slice po t.homes.length pcap,.slice ao t.revs.length cap] 35))):=hA;have HB0:Hid ((w.alloc (.cells #[za t.seq,.slice po t.homes.length pcap,.slice ao t.revs.length cap] 35)).heap[w.heap.size]?=some (.cells #[za t.seq,.slice po t.homes.length pcap,.slice ao t.revs.length cap] 35 (0,0))):=B0
 clear p1 v1 hA B0;go_enter Tryz.func60,Tryz.ntmps60;go_wp2_with fail;generalize (w.alloc (.cells #[za t.seq,.slice po t.homes.length pcap,.slice ao t.revs.length cap] 35))=w0 at*;refine(qx _ t.seq 1 4294967295).mono ?_;rintro e w1 ⟨rfl,rfl⟩;by_cases hs:KT t
 case neg=>
  have Hv:Hid (qO t=false):=z9 (fun h=>hs h.1);by_cases hq:1≤t.seq∧t.seq≤4294967295
  ·have hg:(decide (1≤t.seq)&&decide (t.seq≤4294967295))=true:=by simpa using hq
   rw[hg];have hn:(t.homes.length:Int)+t.revs.length<1∨128<(t.homes.length:Int)+t.revs.length:=by
    by_cases h:1≤t.homes.length+t.revs.length
    ·right;have: ¬t.homes.length+t.revs.length≤128:=fun h'=>hs ⟨hq,h,h'⟩;omega
    ·left;omega
   clear hs hg;rcases hn with hn|hn
   ·go_wp2;go_ret;exact⟨by rw[Hv.out];rfl,HA.out⟩
   ·go_wp2;go_ret;exact⟨by rw[Hv.out];rfl,HA.out⟩
  ·have hg:(decide (1≤t.seq)&&decide (t.seq≤4294967295))=false:=by rw[Bool.eq_false_iff];simpa using hq
   rw[hg];clear hs hg;go_wp2;go_ret;exact⟨by rw[Hv.out];rfl,HA.out⟩
 obtain⟨hq,hn1,hn2⟩:=id hs;have hg:(decide (1≤t.seq)&&decide (t.seq≤4294967295))=true:=by simpa using hq
 have hn1': ¬(t.homes.length:Int)+t.revs.length<1:=by omega
 have hn2': ¬128<(t.homes.length:Int)+t.revs.length:=by omega
 have HS:Hid (KT t):=hs;rw[hg];clear hg hs;go_wp2;go_loopw [4,33] (fun l i wr=>wr=w1∧ ∃k:Nat,k≤t.revs.length∧i=za k∧l=za (qg t.revs k)∧zK t.revs k) (fun _ i _=>t.revs.length-(intOf i).toNat)
 case atStart=>exact⟨rfl,0,Nat.zero_le _,rfl,rfl,zK.zero _⟩
 case round=>
  obtain⟨hw,k,hk,rfl,rfl,hRi⟩:=hrel;have hw':=hw.symm;clear hw;subst hw';have HRi:Hid (zK t.revs k):=hRi;clear hRi;by_cases hlt:k<t.revs.length
  ·obtain⟨b,off,he,c1⟩: ∃b off,ao=some ⟨b,off,none⟩∧w1.cell? ⟨b,off+k,none⟩=some (za (t.revs.getD k 0)):=by
    obtain⟨ao',c',he,_,_,hp⟩:=HR.out.chg HA.out (by omega);simp only[Value.slice.injEq] at he;obtain⟨rfl,_,rfl⟩:=he;rcases hp with hp|⟨b,off,rfl,_,_,hp⟩
    ·rw[hp] at hlt;simp at hlt
    ·exact⟨b,off,rfl,hp k hlt⟩
   subst he;have hik:(k:Int)<(t.revs.length:Int):=by omega
   have hF: ¬fol (qg t.revs k) (t.revs.getD k 0)=true→qS t.revs=false:=fun h=>QG hlt h;have hS:fol (qg t.revs k) (t.revs.getD k 0)=true→zK t.revs (k+1):=fun h=>HRi.out.succ h;have Hpv:Hid (qg t.revs (k+1)=t.revs.getD k 0):=KG _ _;generalize qg t.revs k=pv at*;generalize t.revs.getD k 0=x at*;go_wp2_with fail;refine(JC _ pv x).mono ?_;rintro e w2 ⟨rfl,rfl⟩;by_cases hf:fol pv x=true
   ·have Hn:Hid (zK t.revs (k+1)):=hS hf;rw[hf];clear hF hS hf c1;go_wp2;go_roundw
    case rel=>exact⟨trivial,k+1,by omega,by go_num,by rw[Hpv.out],Hn.out⟩
    case measure=>simp[intOf];omega
   ·have Hv:Hid (qO t=false):=z9 (fun h=>by have:=h.2.2.1;rw[hF hf] at this;cases this);rw[Bool.not_eq_true] at hf;rw[hf];clear hF hS hf c1;go_wp2;go_ret;exact⟨by rw[Hv.out];rfl,HA.out⟩
  ·obtain rfl:k=t.revs.length:=by omega
   have HRr:Hid (zK t.revs t.revs.length):=HRi.out;clear HRi;go_wp2;go_loopw [4,46] (fun l i wx=>Chg 0 0 w1 wx∧ ∃k:Nat,k≤t.homes.length∧i=za k∧l=za (qg (t.homes.map (·.1)) k)∧zK (t.homes.map (·.1)) k∧jQ t k) (fun _ i _=>t.homes.length-(intOf i).toNat)
   case atStart=>exact⟨Chg.refl _ _ _,0,Nat.zero_le _,rfl,rfl,zK.zero _,fun i h=>absurd h (Nat.not_lt_zero i)⟩
   case round=>
    obtain⟨hch,k,hk,rfl,rfl,hRi,hO⟩:=hrel;have HRi:Hid (zK (t.homes.map (·.1)) k):=hRi;have HO:Hid (jQ t k):=hO;have HC:Hid (Chg 0 0 w wr):=HA.out.trans hch;have HB:Hid (wr.heap[w.heap.size]?=some (.cells #[za t.seq,.slice po t.homes.length pcap,.slice ao t.revs.length cap] 35 (0,0))):=(hch.block _ (by omega) (by omega)).trans HB0.out;have hsz:=hch.size;have HCW:Hid (Chg 0 0 w1 wr):=hch;clear hRi hO hch
    by_cases hlt:k<t.homes.length
    ·obtain⟨b,off,he,c1,dv,c2,vd⟩: ∃b off,po=some ⟨b,off,none⟩∧wr.cell? ⟨b,off+k*2,none⟩=some (za (t.homes.getD k (0,[])).1)∧ ∃dv,wr.cell? ⟨b,off+k*2+1,none⟩=some dv∧zr wr lo hi .u8 dv (t.homes.getD k (0,[])).2:=by
      obtain⟨po',pc',he,_,_,hp⟩:=HP.out.chg HC.out (by omega);simp only[Value.slice.injEq] at he;obtain⟨rfl,_,rfl⟩:=he;rcases hp with hp|⟨b,off,rfl,_,_,hp⟩
      ·rw[hp] at hlt;simp at hlt
      ·obtain⟨dv,c1,c2,vd⟩:=hp k hlt;exact⟨b,off,rfl,c1,dv,c2,vd⟩
     subst he;obtain⟨d0,dcap,rfl⟩:=vd.slice;have hik:(k:Int)<(t.homes.length:Int):=by omega
     have hkm:k<(t.homes.map (·.1)).length:=by rw[List.length_map];exact hlt
     have hF: ¬fol (qg (t.homes.map (·.1)) k) (t.homes.getD k (0,[])).1=true→qO t=false:=fun h=>z9 (fun hv=>by
      have:=qY.1 hv.2.1 k hkm;rw[KC] at this;exact h this)
     have hS:fol (qg (t.homes.map (·.1)) k) (t.homes.getD k (0,[])).1=true→zK (t.homes.map (·.1)) (k+1):=fun h=>HRi.out.succ (by rw[KC];exact h);have Hpv:Hid (qg (t.homes.map (·.1)) (k+1)=(t.homes.getD k (0,[])).1):=by show _=_;rw[KG,KC]
     have hok:Q8 t (t.homes.getD k (0,[]))→jQ t (k+1):=fun h=>HO.out.succ h;have hno: ¬Q8 t (t.homes.getD k (0,[]))→qO t=false:=fun h=>z9 (fun hv=>h (hv.2.2.2 k hlt));unfold Q8 at hok hno;generalize qg (t.homes.map (·.1)) k=pv at*;generalize (t.homes.getD k (0,[])).1=q at*;generalize (t.homes.getD k (0,[])).2.length=n at*;clear vd hkm;have cN:Chg 0 0 wr (wr.alloc (.cells #[za q,.slice d0 n dcap] 61)):=Chg.alloc (Chg.refl 0 0 wr) _
     have HB1:Hid ((wr.alloc (.cells #[za q,.slice d0 n dcap] 61)).heap[w.heap.size]?=some (.cells #[za t.seq,.slice (some ⟨b,off,none⟩) t.homes.length pcap,.slice ao t.revs.length cap] 35 (0,0))):=(cN.block _ (by omega) (by omega)).trans HB.out;obtain⟨⟨k0,k1,k2⟩,_⟩:=tri HB1.out;obtain⟨n0,n1,_,_⟩:=zn (zh wr (.cells #[za q,.slice d0 n dcap] 61));have HC1:Hid (Chg 0 0 w (wr.alloc (.cells #[za q,.slice d0 n dcap] 61))):=HC.out.trans cN
     have HCW1:Hid (Chg 0 0 w1 (wr.alloc (.cells #[za q,.slice d0 n dcap] 61))):=HCW.out.trans cN;clear cN;go_wp2_with fail;generalize wr.alloc (.cells #[za q,.slice d0 n dcap] 61)=wn at*;refine(JC _ pv q).mono ?_;rintro e w2 ⟨rfl,rfl⟩;by_cases hf:fol pv q=true
     case neg=>
      have Hv:Hid (qO t=false):=hF hf;rw[Bool.not_eq_true] at hf;rw[hf];clear hF hS hok hno hf;go_wp2;go_ret;exact⟨by rw[Hv.out];rfl,HC1.out⟩
     have Hn:Hid (zK (t.homes.map (·.1)) (k+1)):=hS hf;rw[hf];clear hF hS hf;by_cases hn:n=64
     case neg=>
      have Hv:Hid (qO t=false):=hno (fun h=>hn h.1);have hne:((n:Int) !=64)=true:=by simp;omega
      clear hok hno hn;go_wp2;go_ret;exact⟨by rw[Hv.out];rfl,HC1.out⟩
     subst hn;have hN:=UJ w2 q hl2 HRr.out (HR.out.chg HC1.out (by omega));by_cases hm:q∈t.revs
     ·have Hv:Hid (qO t=false):=hno (fun h=>h.2 hm);rw[decide_eq_true hm] at hN;clear hok hno hm;go_wp2_with fail;refine hN.mono ?_;rintro e w3 ⟨p,rfl,rfl⟩;clear hN;go_wp2;go_ret;exact⟨by rw[Hv.out];rfl,HC1.out⟩
     ·have Ho:Hid (jQ t (k+1)):=hok ⟨rfl,hm⟩;rw[decide_eq_false hm] at hN;clear hok hno hm;go_wp2_with fail;refine hN.mono ?_;rintro e w3 ⟨p,rfl,rfl⟩;clear hN;go_wp2;go_roundw
      case rel=>exact⟨HCW1.out,k+1,by omega,by go_num,by rw[Hpv.out],Hn.out,Ho.out⟩
      case measure=>simp[intOf];omega
    ·obtain rfl:k=t.homes.length:=by omega
     have Hv:Hid (qO t=true):=qz ⟨HS.out,qY.2 (by rw[List.length_map];exact HRi.out),qY.2 HRr.out,HO.out⟩;go_wp2;go_ret;exact⟨by rw[Hv.out];rfl,HC.out⟩
end Go.Proofs.YtacjklochmelfaaGreatDoor
