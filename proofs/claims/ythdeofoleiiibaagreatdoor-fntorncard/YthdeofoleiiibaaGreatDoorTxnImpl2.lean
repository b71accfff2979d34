import Derived.Defers
import Derived.Laws.Pointers
import Derived.Laws.LoneSync
import Derived.RegionTactic
import Derived.RegionCalls
import Derived.Test.YthdeofoleiiibaaGreatDoorSurvLast
namespace Go.Proofs.YthdeofoleiiibaaGreatDoor
open Go.RowKit
set_option maxRecDepth 100000
set_option maxHeartbeats 16000000
variable {xs:List Int}{b lo hi k i j:Nat}{w:World}{a:Value}{d s v:Int}
abbrev sf:= @World.cell?_setCell_same
theorem YC (w:World):(callFunc 188 #[]).run Tryz.prog w= .ok (.value (.tuple #[])) w:=run_call_mark0 Tryz.func188 zl zl zl .disable zl w
theorem KJ (w:World):(callFunc 190 #[]).run Tryz.prog w= .ok (.value (.tuple #[])) w:=run_call_mark0 Tryz.func190 zl zl zl .enable zl w
theorem Nj (a:Addr)(w:World):(callFunc 191 #[.pointer (some a)]).run Tryz.prog w= .ok (.value (.tuple #[])) w:=run_call_marked Tryz.func191 zl zl zl .acquire zl a w
theorem Nk (a:Addr)(w:World):(callFunc 193 #[.pointer (some a)]).run Tryz.prog w= .ok (.value (.tuple #[])) w:=run_call_marked Tryz.func193 zl zl zl .releaseMerge zl a w
theorem bT (a:Addr)(x:Value)(u:FrameMode)(w:World)(f:w.cell? a=some x)(g:w.frozen? a=false):
  CallsD Tryz.prog 166 #[.pointer (some a),.bool true] u w fun e u' w'=>u'=u∧(e= .returned (.tuple #[])∧w'=w.drew.setCell a (.int .u32 1)):=by
 have b:w.drew.cell? a=some x:=zm;have c:w.drew.frozen? a=false:=zm;have d:=run_call_store (P:=Tryz.prog) Tryz.func182 zl zl zl zl (k:= .u32) (y:=1) b c;go_enter_d Tryz.func166,Tryz.ntmps166;go_wp2;go_region_calls
 all_goals (go_end0;exact⟨rfl,rfl⟩)
theorem ae (a:Addr)(u:FrameMode)(w:World)(c:w.cell? a=some (.int .i32 1))(f:w.frozen? a=false):
  CallsD Tryz.prog 165 #[.pointer (some a)] u w fun e u' w'=>u'=u∧(e= .returned (.tuple #[])∧w'=w.setCell a (.int .i32 0)):=by
 have g:=YC;have h:=KJ;have i:=Nk;have b:=run_call_add (P:=Tryz.prog) Tryz.func194 zl zl zl .i32 zl (y:= -1) (s:=0) c f (by simp[go_sem];rfl);have d:=run_convert_to_unsafe (P:=Tryz.prog) (src:=302) (dst:=257) Tryz.underlying302 Tryz.underlying257 zl c;go_enter_d Tryz.func165,Tryz.ntmps165;go_wp2;go_end0;go_wp2;go_end0;exact⟨rfl,rfl⟩
theorem fz (a:Addr)(w:World)(c:w.cell? a=some (.int .i32 0))(g:w.frozen? a=false):
  Calls Tryz.prog 164 #[.pointer (some a)] w fun e w'=>e= .returned (.tuple #[])∧w'=w.setCell a (.int .i32 1):=by
 have i:=YC;have j:=KJ;have h:=Nj;have d:=run_call_cas_hit (P:=Tryz.prog) Tryz.func189 zl zl zl .i32 zl (y:=1) c g;have b:(w.setCell a (.int .i32 1)).cell? a=some (.int .i32 1):=sf w a _ c;have f:=run_convert_to_unsafe (P:=Tryz.prog) (src:=302) (dst:=257) Tryz.underlying302 Tryz.underlying257 zl b;go_enter Tryz.func164,Tryz.ntmps164;go_wp2
 first|go_end0|(simp only[Exit.inBlock,Exit.then];refine bodyPost_ret (results_none rfl _ _ _) rfl ?_)|refine bodyPost_ret (results_none rfl _ _ _) rfl ?_
 go_wp2;go_end0;exact⟨rfl,rfl⟩
structure Sm (w:World)(b:Nat)(d s:Int)(k:Nat):Prop where
 c0:w.cell? (zd b)=some (.int .u32 d)
 c1:w.cell? ⟨b,1,none⟩=some (.int .i32 s)
 fr: ∀o,w.frozen? ⟨b,o,none⟩=false
 ex: ∀i,i<256→ ∃x,w.cell? ⟨b,3+i,none⟩=some x
 tab: ∀i,i<k→w.cell? ⟨b,3+i,none⟩=some (.int .u32 (jm 8 i 0:Nat))
 ty: ∃cs:Array Value,w.heap[b]?=some (zi cs 140)
theorem Sm.drew (h:Sm w b d s k):Sm w.drew b d s k:=
 ⟨h.c0,h.c1,h.fr,h.ex,h.tab,h.ty⟩
theorem jp {p q:Addr}{v x:Value}(h:w.cell? q=some x)(a:p≠q):(w.setCell p v).cell? q=some x:=(World.cell?_setCell_other w p q v a).trans h
theorem Qj (h:i≠j:=by omega):(⟨b,i,none⟩:Addr)≠⟨b,j,none⟩:=fun e=>h (by injection e)
theorem dh {o:Nat}{v:Value}(h: ∃cs:Array Value,w.heap[b]?=some (zi cs 140)): ∃cs:Array Value,(w.setCell ⟨b,o,none⟩ v).heap[b]?=some (zi cs 140):=by
 obtain⟨cs,h⟩:=h;exact⟨_,heap_setCell_same w b o cs _ v h⟩
theorem Sm.put (h:Sm w b d s k)(m:k<256):Sm (w.setCell ⟨b,3+k,none⟩ (.int .u32 (jm 8 k 0:Nat))) b d s (k+1):=by
 obtain⟨g,j,l,c,a,p⟩:=h;obtain⟨x,f⟩:=c k m;refine⟨jp g (Qj),jp j (Qj),fun o=>by simp[l o],fun i hi=>?_,fun i hi=>?_,dh p⟩
 ·by_cases e:i=k
  ·subst e;exact⟨_,sf w _ _ f⟩
  ·obtain⟨y,n⟩:=c i hi;exact⟨y,jp n (Qj)⟩
 ·by_cases e:i=k
  ·subst e;exact sf w _ _ f
  ·exact jp (a i zk) (Qj)
theorem Sm.lock (h:Sm w b d s k)(c:Int):Sm (w.setCell ⟨b,1,none⟩ (.int .i32 c)) b d c k:=by
 obtain⟨e,f,j,g,a,m⟩:=h;refine⟨jp e (Qj),sf w _ _ f,fun o=>by simp[j o],fun i hi=>?_,fun i hi=>jp (a i hi) (Qj),dh m⟩;obtain⟨y,l⟩:=g i hi;exact⟨y,jp l (Qj)⟩
theorem Sm.done (h:Sm w b d s k)(c:Int):Sm (w.setCell (zd b) (.int .u32 c)) b c s k:=by
 obtain⟨e,f,j,g,a,m⟩:=h;refine⟨sf w _ _ e,jp f (Qj),fun o=>by simp[j o],fun i hi=>?_,fun i hi=>jp (a i hi) (Qj),dh m⟩;obtain⟨y,l⟩:=g i hi;exact⟨y,jp l (Qj)⟩
theorem zr.own (w:World)(b o:Nat)(v:Value):zr b (b+1) w (w.setCell ⟨b,o,none⟩ v):=
 zr.setCell (p:=⟨b,o,none⟩) (zr.refl b (b+1) w) (Or.inl ⟨mP _,m5 _⟩) v
theorem Va (w:World)(b:Nat)(d s:Int)(h:Sm w b d s 0):
  Calls Tryz.prog 121 #[zh b] w fun e w'=>e= .returned (.tuple #[])∧Sm w' b d s 256∧zr b (b+1) w w':=by
 have HS:Hid (Sm w b d s 0):=h;clear h;go_enter Tryz.func121,Tryz.ntmps121;go_wp2;go_loopw [3] (fun i wr=> ∃k:Nat,k≤256∧i=za k∧Sm wr b d s k∧zr b (b+1) w wr) (fun i _=>256-(intOf i).toNat)
 case atStart=>exact⟨0,mX _,rfl,HS,zr.refl _ _ _⟩
 case round=>
  obtain⟨k,l,rfl,hs,c⟩:=hrel;clear HS;by_cases a:k<256
  ·have hi:(k:Int)<256:=zk;obtain⟨x,g⟩:=hs.ex k a;have j:=hs.fr (3+k);have HR:Hid (Sm (wr.setCell ⟨b,3+k,none⟩ (.int .u32 (jm 8 k 0:Nat))) b d s (k+1)):=hs.put a;have HC:Hid (zr b (b+1) w (wr.setCell ⟨b,3+k,none⟩ (.int .u32 (jm 8 k 0:Nat)))):=c.setCell (Or.inl ⟨mP _,m5 _⟩) _;have f:Hid (IntKind.u32.wrap (k:Int)=(k:Int)):=by show _=_;rw[IntKind.wrap_u32'];omega
   clear hs c;go_wp2;go_region_with (go_at_call 148;rw[f.out];refine(YX _ k).mono ?_;rintro e m ⟨rfl,rfl⟩)
   all_goals
    go_wp2
    go_roundw
    case rel=>exact⟨k+1,zk,by go_num,HR.out.drew,HC.out.drew⟩
    case measure=>simp[intOf];omega
  ·obtain rfl:k=256:=zk;have HR:Hid (Sm wr b d s 256):=hs;clear hs;go_wp2;go_end0;exact⟨rfl,HR,c⟩
theorem E5 (w:World)(b:Nat)(h:Sm w b 0 0 0):
  Calls Tryz.prog 147 #[zh b,.func (.func 121) #[zh b] #[]] w fun e w'=>e= .returned (.tuple #[])∧Sm w' b 1 0 256∧zr b (b+1) w w':=by
 have h1:=h.lock 1;have j:zr b (b+1) w (w.setCell ⟨b,1,none⟩ (.int .i32 1)):=zr.own w b 1 _;have v:=run_call_load (P:=Tryz.prog) Tryz.func163 zl zl zl .u32 zl h1.c0;have l: ∀(x:Bool) (w:World),(Op.unary .not (.bool x)).run Tryz.prog w= .ok (.bool (!x)) w:=fun _ _=>rfl;have t:=h.c1;have u:=h.fr 1;have n:Hid (Sm (w.setCell ⟨b,1,none⟩ (.int .i32 1)) b 0 1 0):=h1;have c:Hid _:=j;clear h h1 j;go_enter_defers Tryz.func147,Tryz.ntmps147
 go_wp2_with (go_at_call 164;refine(fz ⟨b,1,none⟩ _ zm zm).mono ?_;rintro e w' ⟨rfl,rfl⟩);go_wp2_with (first|(go_at_call 146;go_in)|(go_at_call 121;refine(Va _ b 0 1 n.out).mono ?_;rintro e m ⟨rfl,hs,k⟩));have a:=hs.drew.done 1;have g:Hid (Sm ((m.drew.setCell (zd b) (.int .u32 1)).setCell ⟨b,1,none⟩ (.int .i32 0)) b 1 0 256):=a.lock 0;have d:Hid (zr b (b+1) w ((m.drew.setCell (zd b) (.int .u32 1)).setCell ⟨b,1,none⟩ (.int .i32 0))):=(((c.trans k).drew).trans (zr.own _ b 0 _)).trans (zr.own _ b 1 _)
 have q:=hs.c0;have r:=a.c1;have o:=hs.fr 0;have p:=a.fr 1;clear hs k a;refine leaves_cons (f:=166) (args:= #[zh b,.bool true]) zn (by simp[go_sem]) ?_;refine(bT (zd b) (.int .u32 0) .returning _ q o).mono ?_;rintro e s i ⟨rfl,rfl,rfl⟩;refine leaves_cons (f:=165) (args:= #[.pointer (some ⟨b,1,none⟩)]) (by simp[settle]) (by simp[go_sem]) ?_;refine(ae ⟨b,1,none⟩ _ _ r p).mono ?_;rintro e s i ⟨rfl,rfl,rfl⟩
 simp[Leaves,settle,results,Tryz.results147];exact⟨g,d⟩
theorem JH (w:World)(b:Nat)(h:Sm w b 0 0 0):
  Calls Tryz.prog 120 #[zh b,.func (.func 121) #[zh b] #[]] w fun e w'=>e= .returned (.tuple #[])∧Sm w' b 1 0 256∧zr b (b+1) w w':=by
 have d:=run_call_load (P:=Tryz.prog) Tryz.func163 zl zl zl .u32 zl h.c0;have a: ∀(x:Bool) (w:World),(Op.unary .not (.bool x)).run Tryz.prog w= .ok (.bool (!x)) w:=fun _ _=>rfl;have HS:Hid (Sm w b 0 0 0):=h;clear h;go_enter Tryz.func120,Tryz.ntmps120;go_wp2_with (first|(go_at_call 147;refine(E5 _ b HS.out).mono ?_;rintro e w' ⟨rfl,hs,c⟩)|(go_at_call 146;go_in));go_end0;exact⟨rfl,hs,c⟩
theorem er (r d:Nat)(a:d<256:=by omega):bits .xor .u8 ((r:Int) % 256) (d:Int)=((r % 256^^^d:Nat):Int):=by
 have:=u8_xor_nat (r % 256) d zk a;rw[←this];congr 1
theorem aX (r t:Nat)(b:r<4294967296)(a:t<4294967296):bits .xor .u32 ((r:Int)/256) (t:Int)=((r/256^^^t:Nat):Int):=by
 have:=u32_xor_nat (r/256) t zk a;rw[←this];congr 1
theorem Y8 (a:Nat)(b:a<4294967296:=by omega):bits .xor .u32 IntKind.u32.max (a:Int)=((4294967295-a:Nat):Int):=by
 have h:IntKind.u32.max=4294967295:=zp;rw[h];exact my a b
theorem ld (w:World)(b c:Nat)(F:c≤4294967295)(h:Sm w b 0 0 0)(xs:List Int)(g j cap:Nat)(C:Byt xs)(I:xs.length≤9223372036854775807)(G:g≠b)
  (h1: ∀i,i<xs.length→w.cell? ⟨g,j+i,none⟩=some (zb (xs.getD i 0))):
  Calls Tryz.prog 75 #[zh b,.int .u32 c,zj (some ⟨g,j,none⟩) xs.length cap] w fun e w'=>e= .returned (.int .u32 (4294967295-reg (4294967295-c) (nb xs):Nat))∧zr b (b+1) w w':=by
 have HS:Hid _:=h;have q:Hid (Byt xs):=C;have s:Hid _:=h1;have l:Hid (bits .xor .u32 IntKind.u32.max (c:Int)=((4294967295-c:Nat):Int)):=Y8 c;go_enter Tryz.func75,Tryz.ntmps75;go_wp2_with (go_at_call 120;refine(JH _ b HS.out).mono ?_;rintro e L ⟨rfl,hs,a⟩);go_wp2;go_loop [7,20] (fun y i=> ∃k:Nat,k≤xs.length∧i=za k∧y= .int .u32 (reg (4294967295-c) (nb (xs.take k)):Nat)) (fun _ i=>xs.length-(intOf i).toNat)
 case atStart=>exact⟨0,mX _,rfl,by rw[l.out];rfl⟩
 case round=>
  obtain⟨k,H,rfl,rfl⟩:=hrel;clear HS l;have v:=Xg (nb (xs.take k)) (4294967295-c) zk;by_cases f:k<xs.length
  ·have B:=a.cell (s k f);have x:=q.getD k;have hi:(k:Int)<(xs.length:Int):=zk;have o:Hid (reg (4294967295-c) (nb (xs.take (k+1)))=jm 8 (reg (4294967295-c) (nb (xs.take k))) (xs.getD k 0).toNat):=Q3 _ xs k f;generalize reg (4294967295-c) (nb (xs.take k))=r at*;obtain⟨d,m⟩: ∃d:Nat,xs.getD k 0=(d:Int):=⟨(xs.getD k 0).toNat,zk⟩;rw[m] at B x;have J:=er r d;have D:r % 256^^^d<256:=sI (n:=8) zk zk;have HE':Hid (reg (4294967295-c) (nb (xs.take (k+1)))=r/256^^^jm 8 (r % 256^^^d) 0):=by
    show _=_;rw[o.out,m];exact Ua r d
   clear o m;generalize r % 256^^^d=t at*;have E:=hs.tab t D;have A:=YH 8 t 0 zk;generalize jm 8 t 0=z at*;have K:=aX r z v A;clear hs a;go_wp2;go_round
   case rel=>exact⟨k+1,zk,by go_num,by rw[HE'.out]⟩
   case measure=>simp[intOf];omega
  ·obtain rfl:k=xs.length:=zk;rw[nV] at*;generalize p:reg (4294967295-c) (nb xs)=r at*;have u:Hid (reg (4294967295-c) (nb xs)=r):=p;have l:Hid (bits .xor .u32 IntKind.u32.max (r:Int)=((4294967295-r:Nat):Int)):=Y8 r;clear hs p;go_wp2;go_ret;exact⟨by rw[u.out,←l.out];rfl,a⟩
theorem lc (w:World)(b c:Nat)(g:c≤4294967295)(h:Sm w b 0 0 0)(d:Option Addr)(cap:Nat):
  Calls Tryz.prog 75 #[zh b,.int .u32 c,zj d 0 cap] w fun e w'=>e= .returned (.int .u32 (4294967295-(4294967295-c):Nat))∧zr b (b+1) w w':=by
 have HS:Hid _:=h;have i:=Y8 c;have f:=Y8 (4294967295-c);generalize 4294967295-c=r at*;generalize 4294967295-r=q at*;go_enter Tryz.func75,Tryz.ntmps75;go_wp2_with (go_at_call 120;refine(JH _ b HS.out).mono ?_;rintro e j ⟨rfl,hs,a⟩);go_wp2;refine wp_loop_rounds 1 ?_;rw[rounds_succ];go_wp2;go_ret;exact⟨rfl,a⟩
theorem iG (w:World)(b c:Nat)(f:c≤4294967295)(h:Sm w b 0 0 0)(i:Byt xs)(h1:zC w lo hi .u8 a xs)(m:b<lo∨hi≤b):
  Calls Tryz.prog 75 #[zh b,.int .u32 c,a] w fun e w'=>e= .returned (.int .u32 (4294967295-reg (4294967295-c) (nb xs):Nat))∧zr b (b+1) w w':=by
 obtain⟨g,cap,rfl,j,_,h1⟩:=h1;rcases h1 with rfl|⟨x,d,rfl,k,l,h1⟩
 ·exact lc w b c f h g cap
 ·exact ld w b c f h xs x d cap i j zk h1
def ZS:Array Value:=(.int .u32 0:: .int .i32 0:: .int .u32 0::List.replicate 256 (Value.int .u32 0)).toArray
theorem Tryz.infoSm:(Tryz.prog.info? 140).map (fun i=>(i.zero,i.size,i.bytes))=some (some (.agg ZS),259,1036):=zl
theorem ER (w:World):(zeroValue 140).run Tryz.prog w= .ok (.agg ZS) w:=by
 obtain⟨i,hi,a,b,c⟩:=info_parts Tryz.infoSm;simp only[zeroValue,typeInfo,Sem.run_bind];simp[hi,a]
theorem lQ:ZS[0]?=some (.int .u32 0):=by unfold ZS;rw[rI,List.getElem?_cons_zero]
theorem lR:ZS[1]?=some (.int .i32 0):=by unfold ZS;rw[rI,sQ,List.getElem?_cons_zero]
theorem lS (i:Nat)(hi:i<256):ZS[3+i]?=some (.int .u32 0):=by
 unfold ZS;rw[rI,show 3+i=i+1+1+1 by omega,sQ,sQ,sQ,List.getElem?_replicate,mM hi]
theorem Sm.new (w:World):Sm (w.alloc (zi ZS 140)) w.heap.size 0 0 0:=by
 have b:=zt w (zi ZS 140);have a: ∀o,(w.alloc (zi ZS 140)).cell? ⟨w.heap.size,o,none⟩=ZS[o]?:=by
  intro o;simp only[World.cell?,b];simp
 refine⟨by rw[a,lQ],by rw[a,lR],fun o=>?_,fun i hi=>⟨.int .u32 0,by rw[a,lS i hi]⟩,fun i hi=>zk,⟨_,b⟩⟩;simp only[World.frozen?,b];simp
theorem K7 (w:World)(c:Int)(i:Byt xs)(h1:zC w lo hi .u8 a xs)(l:hi≤w.heap.size):
  Calls Tryz.prog 225 #[za c,a] w fun e w'=>e= .returned (za (XX c xs))∧zr 0 0 w w':=by
 by_cases h:c<0∨c>4294967295
 ·have b:XX c xs= -1:=by unfold XX;rw[mM h]
  rw[b];by_cases h0:c<0
  ·go_enter Tryz.func225,Tryz.ntmps225;go_wp2;go_ret;exact⟨rfl,zr.refl _ _ _⟩
  ·have h2:c>4294967295:=zk;go_enter Tryz.func225,Tryz.ntmps225;go_wp2;go_ret;exact⟨rfl,zr.refl _ _ _⟩
 ·obtain⟨n,rfl⟩: ∃n:Nat,c=(n:Int):=⟨c.toNat,zk⟩;have p:n≤4294967295:=zk;have b:XX n xs=4294967295-(reg (4294967295-n) (nb xs):Nat):=by unfold XX;rw[mN h];rfl
  rw[b];have h0: ¬(n:Int)<0:=zk;have h2: ¬(n:Int)>4294967295:=zk;have o:=Xg (nb xs) (4294967295-n) zk;have s:=ER;go_enter Tryz.func225,Tryz.ntmps225;go_wp2_with fail;have d:zr 0 0 w (w.alloc (zi ZS 140)):=zr.al w;have k:=Sm.new w;generalize w.alloc (zi ZS 140)=u at*
  try rw[HW.out]
  refine(iG _ w.heap.size n p k i (h1.chg d zk) (Or.inr l)).mono ?_;rintro e t ⟨rfl,m⟩;have j:zr 0 0 w t:=d.step m (Or.inr (Or.inl nlR));generalize q:reg (4294967295-n) (nb xs)=r at*;have g:Hid _:=q;have f:Hid (((4294967295-r:Nat):Int)=4294967295-(r:Int)):=by show _=_;omega
  go_wp2;go_ret;exact⟨by rw[g.out,←f.out];rfl,j⟩
theorem UF (w:World)(b:Byt xs)(h1:zC w lo hi .u8 a xs)(c:hi≤w.heap.size:=by omega):
  Calls Tryz.prog 224 #[a] w fun e w'=>e= .returned (za (Zy xs))∧zr 0 0 w w':=by
 go_enter Tryz.func224,Tryz.ntmps224;go_wp2_with fail;refine(K7 _ 0 b h1 c).mono ?_;rintro e f ⟨rfl,d⟩;rw[NS];go_wp2;go_ret;exact⟨rfl,d⟩
def SmR (w:World) (b:Nat):Prop:=Sm w b 0 0 0∨Sm w b 1 0 256
theorem ab (w:World)(b:Nat)(h:Sm w b 1 0 256):
  Calls Tryz.prog 120 #[zh b,.func (.func 121) #[zh b] #[]] w fun e w'=>e= .returned (.tuple #[])∧Sm w' b 1 0 256∧zr b (b+1) w w':=by
 have c:=run_call_load (P:=Tryz.prog) Tryz.func163 zl zl zl .u32 zl h.c0;have a: ∀(x:Bool) (w:World),(Op.unary .not (.bool x)).run Tryz.prog w= .ok (.bool (!x)) w:=fun _ _=>rfl;have HS:Hid (Sm w b 1 0 256):=h;clear h;go_enter Tryz.func120,Tryz.ntmps120;go_wp2_with (go_at_call 146;go_in);go_end0;exact⟨rfl,HS,zr.refl _ _ _⟩
theorem UV (w:World)(b:Nat)(h:SmR w b):
  Calls Tryz.prog 120 #[zh b,.func (.func 121) #[zh b] #[]] w fun e w'=>e= .returned (.tuple #[])∧Sm w' b 1 0 256∧zr b (b+1) w w':=by
 rcases h with h|h
 ·exact JH w b h
 ·exact ab w b h
theorem iF (w:World)(b c:Nat)(J:c≤4294967295)(h:SmR w b)(xs:List Int)(g j cap:Nat)(s:Byt xs)(M:xs.length≤9223372036854775807)(K:g≠b)
  (h1: ∀i,i<xs.length→w.cell? ⟨g,j+i,none⟩=some (zb (xs.getD i 0))):
  Calls Tryz.prog 75 #[zh b,.int .u32 c,zj (some ⟨g,j,none⟩) xs.length cap] w fun e w'=>e= .returned (.int .u32 (4294967295-reg (4294967295-c) (nb xs):Nat))∧Sm w' b 1 0 256∧zr b (b+1) w w':=by
 have HS:Hid (SmR w b):=h;have v:Hid (Byt xs):=s;have x:Hid (∀i,i<xs.length→w.cell? ⟨g,j+i,none⟩=some (zb (xs.getD i 0))):=h1;clear h s h1;have F: ∀(fn:Fn) (a cap:Array Value) (w:World),(Instr.makeFunc fn a cap).run Tryz.prog w= .ok (.func fn a cap) w:=fun _ _ _ _=>rfl;have m:Hid (bits .xor .u32 IntKind.u32.max (c:Int)=((4294967295-c:Nat):Int)):=Y8 c;go_enter Tryz.func75,Tryz.ntmps75;go_wp2_with (go_at_call 120;refine(UV _ b HS.out).mono ?_;rintro e H ⟨rfl,hs,f⟩;have o:Hid (Sm H b 1 0 256):=hs)
 go_wp2;go_loop [7,20] (fun y i=> ∃k:Nat,k≤xs.length∧i=za k∧y= .int .u32 (reg (4294967295-c) (nb (xs.take k)):Nat)) (fun _ i=>xs.length-(intOf i).toNat)
 case atStart=>exact⟨0,mX _,rfl,by rw[m.out];rfl⟩
 case round=>
  obtain⟨k,L,rfl,rfl⟩:=hrel;clear HS m;have B:=Xg (nb (xs.take k)) (4294967295-c) zk;by_cases l:k<xs.length
  ·have E:=f.cell (x k l);have C:=v.getD k;have hi:(k:Int)<(xs.length:Int):=zk;have q:Hid (reg (4294967295-c) (nb (xs.take (k+1)))=jm 8 (reg (4294967295-c) (nb (xs.take k))) (xs.getD k 0).toNat):=Q3 _ xs k l;generalize reg (4294967295-c) (nb (xs.take k))=r at*;obtain⟨d,p⟩: ∃d:Nat,xs.getD k 0=(d:Int):=⟨(xs.getD k 0).toNat,zk⟩;rw[p] at E C;have N:=er r d;have G:r % 256^^^d<256:=sI (n:=8) zk zk;have HE':Hid (reg (4294967295-c) (nb (xs.take (k+1)))=r/256^^^jm 8 (r % 256^^^d) 0):=by
    show _=_;rw[q.out,p];exact Ua r d
   clear q p;generalize r % 256^^^d=t at*;have I:=hs.tab t G;have D:=YH 8 t 0 zk;generalize jm 8 t 0=z at*;have O:=aX r z B D;clear hs f;go_wp2;go_round
   case rel=>exact⟨k+1,zk,by go_num,by rw[HE'.out]⟩
   case measure=>simp[intOf];omega
  ·obtain rfl:k=xs.length:=zk;rw[nV] at*;generalize u:reg (4294967295-c) (nb xs)=r at*;have A:Hid (reg (4294967295-c) (nb xs)=r):=u;have m:Hid (bits .xor .u32 IntKind.u32.max (r:Int)=((4294967295-r:Nat):Int)):=Y8 r;clear hs u;go_wp2;go_ret;exact⟨by rw[A.out,←m.out];rfl,o,f⟩
theorem VA (w:World)(q c s:Int)(F:w.cell? (zd 0)=some (zb 106))(G:w.cell? ⟨0,1,none⟩=some (zb 108))(H:w.cell? ⟨0,2,none⟩=some (zb 111))(I:w.cell? ⟨0,3,none⟩=some (zb 103)):
  Calls Tryz.prog 76 #[.agg #[za q,za c,za s]] w fun e w'=>e= .returned (.agg #[zb 106,zb 108,zb 111,zb 103,za 4,za c,za q,za s])∧zr 0 0 w w':=by
 have A:zr 0 0 w ((w.alloc (zi #[za q,za c,za s] 91)).alloc (zi #[zb 0,zb 0,zb 0,zb 0,za 0,za 0,za 0,za 0] 148)):=(zr.al w).alloc _;have z:((w.alloc (zi #[za q,za c,za s] 91)).alloc (zi #[zb 0,zb 0,zb 0,zb 0,za 0,za 0,za 0,za 0] 148)).heap[w.heap.size]?=some (zi #[za q,za c,za s] 91):=Eb _ _ _;have m:((w.alloc (zi #[za q,za c,za s] 91)).alloc (zi #[zb 0,zb 0,zb 0,zb 0,za 0,za 0,za 0,za 0] 148)).heap[w.heap.size+1]?=some (zi #[zb 0,zb 0,zb 0,zb 0,za 0,za 0,za 0,za 0] 148):=Vs _ _ _
 have y:w.heap.size+1<((w.alloc (zi #[za q,za c,za s] 91)).alloc (zi #[zb 0,zb 0,zb 0,zb 0,za 0,za 0,za 0,za 0] 148)).heap.size:=(zE m);have k:Hid (w.cell? (zd 0)=some (zb 106)∧w.cell? ⟨0,1,none⟩=some (zb 108)∧w.cell? ⟨0,2,none⟩=some (zb 111)∧w.cell? ⟨0,3,none⟩=some (zb 103)):=⟨F,G,H,I⟩;obtain⟨C,D,E⟩:=Ut z;have t:Hid (zr 0 0 w ((w.alloc (zi #[za q,za c,za s] 91)).alloc (zi #[zb 0,zb 0,zb 0,zb 0,za 0,za 0,za 0,za 0] 148))):=A
 have n:Hid (((w.alloc (zi #[za q,za c,za s] 91)).alloc (zi #[zb 0,zb 0,zb 0,zb 0,za 0,za 0,za 0,za 0] 148)).heap[w.heap.size+1]?=some (zi #[zb 0,zb 0,zb 0,zb 0,za 0,za 0,za 0,za 0] 148)):=m;have HS0:Hid (((w.alloc (zi #[za q,za c,za s] 91)).alloc (zi #[zb 0,zb 0,zb 0,zb 0,za 0,za 0,za 0,za 0] 148)).drew.cell? (zd w.heap.size)=some (za q)∧((w.alloc (zi #[za q,za c,za s] 91)).alloc (zi #[zb 0,zb 0,zb 0,zb 0,za 0,za 0,za 0,za 0] 148)).drew.cell? ⟨w.heap.size,1,none⟩=some (za c)∧((w.alloc (zi #[za q,za c,za s] 91)).alloc (zi #[zb 0,zb 0,zb 0,zb 0,za 0,za 0,za 0,za 0] 148)).drew.cell? ⟨w.heap.size,2,none⟩=some (za s)):=⟨C,D,E⟩
 clear A z m F G H I C D E;go_enter Tryz.func76,Tryz.ntmps76;go_upto_region 1 with fail;generalize ((w.alloc (zi #[za q,za c,za s] 91)).alloc (zi #[zb 0,zb 0,zb 0,zb 0,za 0,za 0,za 0,za 0] 148))=l at*;refine hRg (fun w':World=>w'.cell? (zd w.heap.size)=some (za q)∧w'.cell? ⟨w.heap.size,1,none⟩=some (za c)∧w'.cell? ⟨w.heap.size,2,none⟩=some (za s)) ?_;refine hTk 0 (.pointer (some ⟨w.heap.size,1,none⟩)) rfl (fun w' a=>by have f:=a.1;have g:=a.2.1;have h:=a.2.2;go_simp) HS0.out ?_
 go_simp;refine hTk 1 (za c) rfl (fun w' a=>by have f:=a.1;have g:=a.2.1;have h:=a.2.2;go_simp) HS0.out ?_;go_simp;refine hTk 2 (zh w.heap.size) rfl (fun w' a=>by have f:=a.1;have g:=a.2.1;have h:=a.2.2;go_simp) HS0.out ?_;go_simp;refine hTk 3 (za q) rfl (fun w' a=>by have f:=a.1;have g:=a.2.1;have h:=a.2.2;go_simp) HS0.out ?_;go_simp;refine hTk 5 (.pointer (some ⟨w.heap.size,2,none⟩)) rfl (fun w' a=>by have f:=a.1;have g:=a.2.1;have h:=a.2.2;go_simp) HS0.out ?_
 go_simp;refine hTk 6 (za s) rfl (fun w' a=>by have f:=a.1;have g:=a.2.1;have h:=a.2.2;go_simp) HS0.out ?_;go_simp;have b:Hid (zr 0 0 w l.drew):=t.drew;have o:Hid (l.drew.heap[w.heap.size+1]?=some (zi #[zb 0,zb 0,zb 0,zb 0,za 0,za 0,za 0,za 0] 148)):=n.out;have j:w.heap.size+1<l.drew.heap.size:=y;generalize l.drew=J at*;have B:=ZD J 4 c q (b.cell k.1) (b.cell k.2.1) (b.cell k.2.2.1) (b.cell k.2.2.2)
 refine hOn 4 rfl ?_;refine zv 122 #[za 4,za c,za q] zq B ?_;rintro e K ⟨rfl,h2⟩;have HS2:Hid (_∧_∧_):=⟨h2.cell HS0.1,h2.cell HS0.2.1,h2.cell HS0.2.2⟩;have u:Hid _:=b.trans h2;have p:Hid (K.heap[w.heap.size+1]?=some (zi #[zb 0,zb 0,zb 0,zb 0,za 0,za 0,za 0,za 0] 148)):=(h2.bk (w.heap.size+1) j).trans o;refine⟨_,rfl,HS2,?_⟩;clear B h2;go_simp;refine hTk 7 (.agg #[zb 106,zb 108,zb 111,zb 103,za 4,za c,za q,za s]) rfl (fun w' a=>by have f:=a.1;have g:=a.2.1;have h:=a.2.2;go_simp) HS2.out ?_
 go_simp;refine hOn 8 rfl ?_;refine wsR [zb 106,zb 108,zb 111,zb 103,za 4,za c,za q,za s] p ?_;intro L i d;have x:Hid (_∧_∧_):=⟨d.cell HS2.1,d.cell HS2.2.1,d.cell HS2.2.2⟩;have HC3:Hid _:=u.step d;have r:Hid _:=i;refine⟨x,?_⟩;clear i d;refine hDn ?_;go_wp2;have hb:=r.out;exact mT (v:= .agg #[zb 106,zb 108,zb 111,zb 103,za 4,za c,za q,za s]) (by simp[results,Tryz.results76,go_sem,World.cell?,hb]) rfl ⟨rfl,HC3.out⟩
theorem XL (w:World)(l v:Int):Calls Tryz.prog 112 #[za l,za v] w fun e w'=>e= .returned (.bool (fol l v))∧w'=w:=by
 unfold fol;by_cases h1:l<v
 ·by_cases h2:v<2048
  ·rw[mR h1,mR h2];go_enter Tryz.func112,Tryz.ntmps112;go_wp2;go_ret;exact⟨rfl,rfl⟩
  ·rw[mR h1,mY h2];go_enter Tryz.func112,Tryz.ntmps112;go_wp2;go_ret;exact⟨rfl,rfl⟩
 ·rw[mY h1];go_enter Tryz.func112,Tryz.ntmps112;go_wp2;go_ret;exact⟨rfl,rfl⟩
theorem fw (w:World)(x:Int):Calls Tryz.prog 140 #[za x] w fun e w'=>e= .returned (.bool false)∧w'=w:=by
 have a:(x !=x)=false:=zn;go_enter Tryz.func140,Tryz.ntmps140;go_wp2;go_ret;exact⟨rfl,rfl⟩
theorem bR (w:World)(x:Int):Calls Tryz.prog 160 #[za x] w fun e w'=>e= .returned (.bool false)∧w'=w:=by
 have a:(x !=x)=false:=zn;go_enter Tryz.func160,Tryz.ntmps160;go_wp2;go_ret;exact⟨rfl,rfl⟩
theorem bP (w:World)(x y:Int):Calls Tryz.prog 139 #[za x,za y] w fun e w'=>e= .returned (.bool (decide (x<y)))∧w'=w:=by
 go_enter Tryz.func139,Tryz.ntmps139;go_wp2_with fail;refine(bR _ x).mono ?_;rintro e a ⟨rfl,rfl⟩;go_wp2;go_ret;exact⟨rfl,rfl⟩
def Bs (xs:List Int) (v:Int) (i j:Nat):Prop:=i≤j∧j≤xs.length∧(∀m,m<i→xs.getD m 0<v)∧ ∀m,j≤m→m<xs.length→v≤xs.getD m 0
theorem z8.lt (h:z8 xs xs.length): ∀d m:Nat,m+d+1<xs.length→xs.getD m 0<xs.getD (m+d+1) 0:=by
 intro d
 induction d with
 |zero=>
  intro m a;have:=(jZ.1 (h (m+1) zk)).1;rwa [show qH xs (m+1)=xs.getD m 0 from by unfold qH;rw[mN zk];rfl] at this
 |succ d ih=>
  intro m a;have h1:=ih m zk;have h2:=(jZ.1 (h (m+(d+1)+1) zk)).1;rw[show qH xs (m+(d+1)+1)=xs.getD (m+d+1) 0 from by unfold qH;rw[mN zk];rfl] at h2;omega
theorem Bs.start (xs:List Int)(v:Int):Bs xs v 0 xs.length:=⟨mX _,mP _,fun m h=>absurd h (nW m),fun m h1 h2=>zk⟩
theorem z8.le (h:z8 xs xs.length){a:Nat}(c:a≤b)(f:b<xs.length):xs.getD a 0≤xs.getD b 0:=by
 by_cases e:a=b
 ·subst e;exact pd _
 ·obtain⟨d,rfl⟩: ∃d,b=a+d+1:=⟨b-a-1,zk⟩;exact sE (h.lt d a f)
theorem Bs.up {m:Nat}(h:Bs xs v i j)(a:z8 xs xs.length)(_:i≤m)(h2:m<j)(b:xs.getD m 0<v):Bs xs v (m+1) j:=
 ⟨zk,h.2.1,fun k c=>Int.lt_of_le_of_lt (a.le zk (by have:=h.2.1;omega)) b,h.2.2.2⟩
theorem Bs.down {m:Nat}(h:Bs xs v i j)(c:z8 xs xs.length)(h1:i≤m)(h2:m<j)(d: ¬xs.getD m 0<v):Bs xs v i m:=
 ⟨h1,by have:=h.2.1;omega,h.2.2.1,fun k b a=>Int.le_trans (Int.not_lt.1 d) (c.le b a)⟩
theorem Bs.found (h:Bs xs v i i)(j:z8 xs xs.length):v∈xs↔i<xs.length∧xs.getD i 0=v:=by
 constructor
 ·intro d;obtain⟨m,d,e⟩:=r7.1 d;have g:xs.getD m 0=v:=by rw[←e];simp[d]
  have h1: ¬m<i:=fun f=>by have:=h.2.2.1 m f;omega
  have c:i<xs.length:=zk;have h2:=h.2.2.2 i nlR c;have h3:=j.le (a:=i) (b:=m) zk d;exact⟨c,zk⟩
 ·rintro⟨f,e⟩;rw[←e];simp[f]
theorem aC (w:World)(xs:List Int)(v:Int)(b g cap:Nat)(F:xs.length≤1048576)(A:z8 xs xs.length)
  (h1: ∀i,i<xs.length→w.cell? ⟨b,g+i,none⟩=some (za (xs.getD i 0))):
  Calls Tryz.prog 113 #[zj (some ⟨b,g,none⟩) xs.length cap,za v] w fun e w'=> ∃p,e= .returned (.tuple #[za p,.bool (decide (v∈xs))])∧w'=w:=by
 have t:Hid (z8 xs xs.length):=A;clear A;go_enter Tryz.func113,Tryz.ntmps113;go_wp2;go_loopw [7,8] (fun i j wr=>wr=w∧ ∃a c:Nat,i=za a∧j=za c∧Bs xs v a c) (fun i j _=>(intOf j).toNat-(intOf i).toNat)
 case atStart=>exact⟨rfl,0,xs.length,rfl,rfl,Bs.start xs v⟩
 case round=>
  obtain⟨rfl,a,c,rfl,rfl,r⟩:=hrel;have B:=r.1;have C:=r.2.1;have s:Hid (Bs xs v a c):=r;clear r;by_cases D:a<c
  ·have o:a≤(a+c)/2:=zk;have q:(a+c)/2<c:=zk;have u:wr.cell? ⟨b,g+(a+c)/2,none⟩=some (za (xs.getD ((a+c)/2) 0)):=h1 _ zk;have y:((a:Int)+c)/2<(xs.length:Int):=zk;have m:=s.up t o q;have k:=s.down t o q;generalize xs.getD ((a+c)/2) 0=x at*;clear h1;go_wp2_with fail;refine(bP _ x v).mono ?_;rintro e E ⟨rfl,rfl⟩;by_cases d:x<v
   ·have f:Hid (Bs xs v ((a+c)/2+1) c):=m d;rw[mR d];clear m k d u;go_wp2;go_roundw
    case rel=>exact⟨trivial,(a+c)/2+1,c,by first|go_num|(congr 1;omega),rfl,f.out⟩
    case measure=>simp[intOf];omega
   ·have f:Hid (Bs xs v a ((a+c)/2)):=k zk;rw[mY d];clear m k d u;go_wp2;go_roundw
    case rel=>exact⟨trivial,a,(a+c)/2,rfl,by first|go_num|(congr 1;omega),f.out⟩
    case measure=>simp[intOf];omega
  ·obtain rfl:a=c:=zk;have n:=s.found t;by_cases l:a<xs.length
   ·have u:wr.cell? ⟨b,g+a,none⟩=some (za (xs.getD a 0)):=h1 _ l;have y:(a:Int)<(xs.length:Int):=zk;by_cases d:xs.getD a 0=v
    ·have f:Hid (decide (v∈xs)=true):=mR (n.2 ⟨l,d⟩);have z:(xs.getD a 0==v)=true:=by simpa using d
     generalize xs.getD a 0=x at*;clear n h1 d;go_wp2;go_ret2;exact⟨_,by rw[f.out];rfl,rfl⟩
    ·have f:Hid (decide (v∈xs)=false):=mY (fun h=>d (n.1 h).2);have z:(xs.getD a 0==v)=false:=by simpa using d
     generalize xs.getD a 0=x at*;clear n h1 d;go_wp2_with fail;refine(fw _ x).mono ?_;rintro e E ⟨rfl,rfl⟩;go_wp2;go_ret2;exact⟨_,by rw[f.out];rfl,rfl⟩
   ·have f:Hid (decide (v∈xs)=false):=mY (fun h=>l (n.1 h).1);clear n h1;go_wp2;go_ret2;exact⟨_,by rw[f.out];rfl,rfl⟩
theorem aB (w:World)(v:Int)(a:Option Addr)(cap:Nat):
  Calls Tryz.prog 113 #[zj a 0 cap,za v] w fun e w'=> ∃p,e= .returned (.tuple #[za p,.bool false])∧w'=w:=by
 go_enter Tryz.func113,Tryz.ntmps113;go_wp2;refine pD 1 ?_;rw[rounds_succ];go_wp2;go_ret2;exact⟨_,rfl,rfl⟩
theorem Nt (w:World)(v:Int)(d:xs.length≤1048576)(f:z8 xs xs.length)(h1:zC w lo hi .i64 a xs):
  Calls Tryz.prog 113 #[a,za v] w fun e w'=> ∃p,e= .returned (.tuple #[za p,.bool (decide (v∈xs))])∧w'=w:=by
 obtain⟨c,cap,rfl,_,_,h1⟩:=h1;rcases h1 with rfl|⟨x,b,rfl,_,_,h1⟩
 ·exact aB w v c cap
 ·exact aC w xs v x b cap d f h1
theorem qZ (w:World)(v l m:Int):Calls Tryz.prog 78 #[za v,za l,za m] w fun e w'=>e= .returned (.bool (decide (l≤v)&&decide (v≤m)))∧w'=w:=by
 by_cases h1:l≤v
 ·by_cases h2:v≤m
  ·rw[mR h1,mR h2];go_enter Tryz.func78,Tryz.ntmps78;go_wp2;go_ret;exact⟨rfl,rfl⟩
  ·rw[mR h1,mY h2];go_enter Tryz.func78,Tryz.ntmps78;go_wp2;go_ret;exact⟨rfl,rfl⟩
 ·rw[mY h1];go_enter Tryz.func78,Tryz.ntmps78;go_wp2;go_ret;exact⟨rfl,rfl⟩
theorem VZ (xs:List Int)(k:Nat):qH xs (k+1)=xs.getD k 0:=by unfold qH;rw[mN zk];rfl
theorem VV (ps:List Wr)(k:Nat):(ps.map (·.1)).getD k 0=(ps.getD k (0,[])).1:=by
 simp only[mV,nU]
 cases ps[k]?<;>rfl
theorem X9 (w:World){t:Tx}(hl:Qa t≤1048576)(h1:jy w lo hi a t):
  Calls Tryz.prog 73 #[a] w fun e w'=>e= .returned (.bool (ja t))∧zr 0 0 w w':=by
 have ae:t.homes.length≤1048576:=by have:=gQ t.homes;unfold Qa at hl;omega
 have Z:t.rV.length≤1048576:=by unfold Qa at hl;omega
 obtain⟨R,rv,rfl,p1,v1⟩:=h1;obtain⟨z,c,rfl⟩:=p1.slice;obtain⟨s,cap,rfl⟩:=v1.slice;have hA:zr 0 0 w (w.alloc (zi #[za t.seq,zj z t.homes.length c,zj s t.rV.length cap] 35)):=zr.al w;have T:=zt w (zi #[za t.seq,zj z t.homes.length c,zj s t.rV.length cap] 35);have s0:(w.alloc (zi #[za t.seq,zj z t.homes.length c,zj s t.rV.length cap] 35)).heap.size=w.heap.size+1:=zn;obtain⟨⟨k0,k1,k2⟩,_⟩:=tri T;have HP:Hid (qW w lo hi (zj z t.homes.length c) t.homes):=p1
 have HR:Hid (zC w lo hi .i64 (zj s t.rV.length cap) t.rV):=v1;have F:Hid (zr 0 0 w (w.alloc (zi #[za t.seq,zj z t.homes.length c,zj s t.rV.length cap] 35))):=hA;have U:Hid ((w.alloc (zi #[za t.seq,zj z t.homes.length c,zj s t.rV.length cap] 35)).heap[w.heap.size]?=some (zi #[za t.seq,zj z t.homes.length c,zj s t.rV.length cap] 35)):=T;clear p1 v1 hA T;go_enter Tryz.func73,Tryz.ntmps73;go_wp2_with fail
 generalize (w.alloc (zi #[za t.seq,zj z t.homes.length c,zj s t.rV.length cap] 35))=w0 at*;refine(qZ _ t.seq 1 4294967295).mono ?_;rintro e w1 ⟨rfl,rfl⟩;by_cases hs:Ul t
 case neg=>
  have Hv:Hid (ja t=false):=qg (fun h=>hs h.1);by_cases O:1≤t.seq∧t.seq≤4294967295
  ·have C:(decide (1≤t.seq)&&decide (t.seq≤4294967295))=true:=by simpa using O
   rw[C];have hn:(t.homes.length:Int)+t.rV.length<1∨128<(t.homes.length:Int)+t.rV.length:=by
    by_cases h:1≤t.homes.length+t.rV.length
    ·right;have: ¬t.homes.length+t.rV.length≤128:=fun h'=>hs ⟨O,h,h'⟩;omega
    ·left;omega
   clear hs C;rcases hn with hn|hn
   ·go_wp2;go_ret;exact⟨by rw[Hv.out];rfl,F⟩
   ·go_wp2;go_ret;exact⟨by rw[Hv.out];rfl,F⟩
  ·have C:(decide (1≤t.seq)&&decide (t.seq≤4294967295))=false:=by rw[n7];simpa using O
   rw[C];clear hs C;go_wp2;go_ret;exact⟨by rw[Hv.out];rfl,F⟩
 obtain⟨O,af,ag⟩:=id hs;have C:(decide (1≤t.seq)&&decide (t.seq≤4294967295))=true:=by simpa using O
 have ab: ¬(t.homes.length:Int)+t.rV.length<1:=zk;have ac: ¬128<(t.homes.length:Int)+t.rV.length:=zk;have HS:Hid (Ul t):=hs;rw[C];clear C hs;go_wp2;go_loopw [4,33] (fun l i wr=>wr=w1∧ ∃k:Nat,k≤t.rV.length∧i=za k∧l=za (qH t.rV k)∧z8 t.rV k) (fun _ i _=>t.rV.length-(intOf i).toNat)
 case atStart=>exact⟨rfl,0,mX _,rfl,rfl,z8.zero _⟩
 case round=>
  obtain⟨hw,k,hk,rfl,rfl,u⟩:=hrel;have aa:=hw.symm;clear hw;subst aa;have o:Hid (z8 t.rV k):=u;clear u;by_cases f:k<t.rV.length
  ·obtain⟨b,d,B,L⟩: ∃b d,s=some ⟨b,d,none⟩∧w1.cell? ⟨b,d+k,none⟩=some (za (t.rV.getD k 0)):=by
    obtain⟨ad,c',B,_,_,y⟩:=HR.chg F zk;simp only[nt] at B;obtain⟨rfl,_,rfl⟩:=B;rcases y with y|⟨b,d,rfl,_,_,y⟩
    ·rw[y] at f;simp at f
    ·exact⟨b,d,rfl,y k f⟩
   subst B;have Y:(k:Int)<(t.rV.length:Int):=zk;have D: ¬fol (qH t.rV k) (t.rV.getD k 0)=true→jv t.rV=false:=fun h=>JL f h;have E:fol (qH t.rV k) (t.rV.getD k 0)=true→z8 t.rV (k+1):=fun h=>o.succ h;have Hpv:Hid (qH t.rV (k+1)=t.rV.getD k 0):=VZ _ _;generalize qH t.rV k=P at*;generalize t.rV.getD k 0=x at*;go_wp2_with fail;refine(XL _ P x).mono ?_;rintro e w2 ⟨rfl,rfl⟩;by_cases j:fol P x=true
   ·have Hn:Hid (z8 t.rV (k+1)):=E j;rw[j];clear D E j L;go_wp2;go_roundw
    case rel=>exact⟨trivial,k+1,zk,by go_num,by rw[Hpv.out],Hn.out⟩
    case measure=>simp[intOf];omega
   ·have Hv:Hid (ja t=false):=qg (fun h=>by have:=h.2.2.1;rw[D j] at this;cases this);rw[Bool.not_eq_true] at j;rw[j];clear D E j L;go_wp2;go_ret;exact⟨by rw[Hv.out];rfl,F⟩
  ·obtain rfl:k=t.rV.length:=zk;have K:Hid (z8 t.rV t.rV.length):=o.out;clear o;go_wp2;go_loopw [4,46] (fun l i wx=>zr 0 0 w1 wx∧ ∃k:Nat,k≤t.homes.length∧i=za k∧l=za (qH (t.homes.map (·.1)) k)∧z8 (t.homes.map (·.1)) k∧ZC t k) (fun _ i _=>t.homes.length-(intOf i).toNat)
   case atStart=>exact⟨zr.refl _ _ _,0,mX _,rfl,rfl,z8.zero _,fun i h=>absurd h (nW i)⟩
   case round=>
    obtain⟨v,k,hk,rfl,rfl,u,hO⟩:=hrel;have o:Hid (z8 (t.homes.map (·.1)) k):=u;have HO:Hid (ZC t k):=hO;have W:Hid (zr 0 0 w wr):=F.trans v;have HB:Hid (wr.heap[w.heap.size]?=some (zi #[za t.seq,zj z t.homes.length c,zj s t.rV.length cap] 35)):=v.bt U;have ai:=v.size;have X:Hid (zr 0 0 w1 wr):=v;clear u hO v;by_cases f:k<t.homes.length
    ·obtain⟨b,d,B,L,M,c2,S⟩: ∃b d,z=some ⟨b,d,none⟩∧wr.cell? ⟨b,d+k*2,none⟩=some (za (t.homes.getD k (0,[])).1)∧ ∃M,wr.cell? ⟨b,d+k*2+1,none⟩=some M∧zC wr lo hi .u8 M (t.homes.getD k (0,[])).2:=by
      obtain⟨ak,aj,B,_,_,y⟩:=HP.chg W zk;simp only[nt] at B;obtain⟨rfl,_,rfl⟩:=B;rcases y with y|⟨b,d,rfl,_,_,y⟩
      ·rw[y] at f;simp at f
      ·obtain⟨M,L,c2,S⟩:=y k f;exact⟨b,d,rfl,L,M,c2,S⟩
     subst B;obtain⟨G,g,rfl⟩:=S.slice;have Y:(k:Int)<(t.homes.length:Int):=zk;have N:k<(t.homes.map (·.1)).length:=by rw[mO];exact f
     have D: ¬fol (qH (t.homes.map (·.1)) k) (t.homes.getD k (0,[])).1=true→ja t=false:=fun h=>qg (fun R=>by
      have:=jI.1 R.2.1 k N;rw[VV] at this;exact h this)
     have E:fol (qH (t.homes.map (·.1)) k) (t.homes.getD k (0,[])).1=true→z8 (t.homes.map (·.1)) (k+1):=fun h=>o.succ (by rw[VV];exact h);have Hpv:Hid (qH (t.homes.map (·.1)) (k+1)=(t.homes.getD k (0,[])).1):=by show _=_;rw[VZ,VV]
     have r:J8 t (t.homes.getD k (0,[]))→ZC t (k+1):=fun h=>HO.succ h;have m: ¬J8 t (t.homes.getD k (0,[]))→ja t=false:=fun h=>qg (fun R=>h (R.2.2.2 k f));unfold J8 at r m;generalize qH (t.homes.map (·.1)) k=P at*;generalize (t.homes.getD k (0,[])).1=q at*;generalize (t.homes.getD k (0,[])).2.length=n at*;clear S N;have Q:zr 0 0 wr (wr.alloc (zi #[za q,zj G n g] 68)):=zr.al wr;have V:Hid ((wr.alloc (zi #[za q,zj G n g] 68)).heap[w.heap.size]?=some (zi #[za t.seq,zj (some ⟨b,d,none⟩) t.homes.length c,zj s t.rV.length cap] 35)):=Q.bt HB
     obtain⟨⟨k0,k1,k2⟩,_⟩:=tri V;obtain⟨n0,n1,_,_⟩:=zw (zt wr (zi #[za q,zj G n g] 68));have A:Hid (zr 0 0 w (wr.alloc (zi #[za q,zj G n g] 68))):=W.trans Q;have J:Hid (zr 0 0 w1 (wr.alloc (zi #[za q,zj G n g] 68))):=X.trans Q;clear Q;go_wp2_with fail;generalize wr.alloc (zi #[za q,zj G n g] 68)=wn at*;refine(XL _ P q).mono ?_;rintro e w2 ⟨rfl,rfl⟩;by_cases j:fol P q=true
     case neg=>
      have Hv:Hid (ja t=false):=D j;rw[Bool.not_eq_true] at j;rw[j];clear D E r m j;go_wp2;go_ret;exact⟨by rw[Hv.out];rfl,A⟩
     have Hn:Hid (z8 (t.homes.map (·.1)) (k+1)):=E j;rw[j];clear D E j;by_cases hn:n=64
     case neg=>
      have Hv:Hid (ja t=false):=m (fun h=>hn h.1);have ah:((n:Int) !=64)=true:=by simp;omega
      clear r m hn;go_wp2;go_ret;exact⟨by rw[Hv.out];rfl,A⟩
     subst hn;have H:=Nt w2 q Z K (HR.chg A zk);by_cases I:q∈t.rV
     ·have Hv:Hid (ja t=false):=m (fun h=>h.2 I);rw[mR I] at H;clear r m I;go_wp2_with fail;refine H.mono ?_;rintro e w3 ⟨p,rfl,rfl⟩;clear H;go_wp2;go_ret;exact⟨by rw[Hv.out];rfl,A⟩
     ·have Ho:Hid (ZC t (k+1)):=r ⟨rfl,I⟩;rw[mY I] at H;clear r m I;go_wp2_with fail;refine H.mono ?_;rintro e w3 ⟨p,rfl,rfl⟩;clear H;go_wp2;go_roundw
      case rel=>exact⟨J.out,k+1,zk,by go_num,by rw[Hpv.out],Hn.out,Ho.out⟩
      case measure=>simp[intOf];omega
    ·obtain rfl:k=t.homes.length:=zk;have Hv:Hid (ja t=true):=qu ⟨HS,jI.2 (by rw[mO];exact o),jI.2 K,HO⟩;go_wp2;go_ret;exact⟨by rw[Hv.out];rfl,W⟩
end Go.Proofs.YthdeofoleiiibaaGreatDoor
