import Derived.Test.YtacjklochmelfaaGreatDoorJReadR
import Derived.Test.YtacjklochmelfaaGreatDoorNumBackI
import Derived.Test.YtacjklochmelfaaGreatDoorJReadC
import Derived.Test.YtacjklochmelfaaGreatDoorRows
import Derived.Test.YtacjklochmelfaaGreatDoorCells2
import Derived.Test.YtacjklochmelfaaGreatDoorRowsE
import Derived.Deep.DeepCutAuto
import Derived.Laws.AppendOwnNone
import Derived.Test.YtacjklochmelfaaGreatDoorPutByt
import Derived.Test.YtacjklochmelfaaGreatDoorCopyRow
import Derived.Deep.RegionWith
namespace Go.Proofs.YtacjklochmelfaaGreatDoor
open Go.RowKit
set_option maxRecDepth 100000
set_option maxHeartbeats 16000000
theorem NN {l:List Int}(h:l.length=2): ∃a b,l= [a,b]:=by
 match l,h with
 | [a,b],_=>exact⟨a,b,rfl⟩
theorem N1 {l:List Int}(h:l.length=4): ∃a b c d,l= [a,b,c,d]:=by
 match l,h with
 | [a,b,c,d],_=>exact⟨a,b,c,d,rfl⟩
theorem ZQ {k c q:Int}{Y:List Int}(hc:(zk c 2).length=2)(hq:(zk q 4).length=4)(hc9:c≤9223372036854775807)(hq9:q≤9223372036854775807):
  (qc (zm k c q++Y)).take 4=mg∧(qc (zm k c q++Y)).getD 4 0=k∧hd7 (qc (zm k c q++Y))= #[zb 106,zb 108,zb 111,zb 103,za k,za c,za q]∧(qc (zm k c q++Y)).drop 12=Y++List.replicate (64-(zm k c q++Y).length) 0:=by
 have gc:=j3 c 2 hc9 (by intro e;rw[e] at hc;simp at hc);have gq:=j3 q 4 hq9 (by intro e;rw[e] at hq;simp at hq);obtain⟨a,b,e1⟩:=NN hc;obtain⟨d,e,f,g,e2⟩:=N1 hq;rw[e1] at gc;rw[e2] at gq;unfold qc zm;rw[e1,e2];refine⟨?_,?_,?_,?_⟩
 ·simp[mg]
 ·simp[mg]
 ·unfold hd7;simp[mg,gc,gq]
 ·simp[mg]
theorem acl (w:World){lo hi:Nat}{a:Value}{tL tM tK:TypeId}{vL vM vK:Value}(c q s:Int)(h1:zr w lo hi .u8 a (qc (zm 4 c q++zk s 4)))(hB:Byt (qc (zm 4 c q++zk s 4)))(hG:jl w tL tM tK vL vM vK)(hb:1≤q∧q≤4294967295∧1≤c∧c≤511)(hs:0≤s∧s≤4294967295):
  Calls Tryz.prog 154 #[a] w fun e w'=>e= .returned (.tuple #[.agg #[zb 106,zb 108,zb 111,zb 103,za 4,za c,za q,za s],.nilIface])∧Chg 0 0 w w':=by
 have hi2:=pn2 (v:=c) (by omega) (by omega);have hq4:=pn4 (v:=q) (by omega) hb.2.1;have hs4:=pn4 (v:=s) hs.1 hs.2;obtain⟨b1,b2,b3,b4⟩:=ZQ (k:=4) (Y:=zk s 4) hi2 hq4 (by omega) (by omega);have hl:(qc (zm 4 c q++zk s 4)).length=64:=by
  unfold qc;rw[List.length_append,List.length_replicate,List.length_append,qX hi2 hq4,hs4]
 refine Vw w c q s h1 hB hG hl b1 b2 b3 ?_ rfl hb hs hi2 hq4 hs4;rw[b4,List.take_append_of_le_length (by omega),List.take_of_length_le (by omega)];exact j3 s 4 (by omega) (by intro e;rw[e] at hs4;simp at hs4)
theorem qB (w:World)(v:Int):Calls Tryz.prog 113 #[za v] w fun e w'=>e= .returned (.bool (decide (0≤v)&&decide (v<2048)))∧w'=w:=by
 by_cases h1:0≤v
 ·by_cases h2:v<2048
  ·rw[decide_eq_true h1,decide_eq_true h2];go_enter Tryz.func113,Tryz.ntmps113;go_wp2;go_ret;exact⟨rfl,rfl⟩
  ·rw[decide_eq_true h1,decide_eq_false h2];go_enter Tryz.func113,Tryz.ntmps113;go_wp2;go_ret;exact⟨rfl,rfl⟩
 ·rw[decide_eq_false h1];go_enter Tryz.func113,Tryz.ntmps113;go_wp2;go_ret;exact⟨rfl,rfl⟩
def fol (last v:Int):Bool:=decide (last<v)&&decide (v<2048)
def qg (xs:List Int) (i:Nat):Int:=if i=0 then-1 else xs.getD (i-1) 0
def zK (xs:List Int) (n:Nat):Prop:= ∀i,i<n→fol (qg xs i) (xs.getD i 0)=true
def qS (xs:List Int):Bool:=decide (∀i,i<xs.length→fol (qg xs i) (xs.getD i 0)=true)
theorem jv {a v:Int}:fol a v=true↔a<v∧v<2048:=by unfold fol;simp
theorem qY {xs:List Int}:qS xs=true↔zK xs xs.length:=decide_eq_true_iff
theorem QG {xs:List Int}{k:Nat}(hk:k<xs.length)(h: ¬fol (qg xs k) (xs.getD k 0)=true):qS xs=false:=by
 rw[Bool.eq_false_iff];intro e;exact h (qY.1 e k hk)
theorem zK.zero (xs:List Int):zK xs 0:=fun i h=>absurd h (Nat.not_lt_zero i)
theorem zK.succ {xs:List Int}{n:Nat}(h:zK xs n)(hn:fol (qg xs n) (xs.getD n 0)=true):zK xs (n+1):=by
 intro i hi;by_cases e:i=n
 ·subst e;exact hn
 ·exact h i (by omega)
theorem zK.pos {xs:List Int}{n:Nat}(h:zK xs n): ∀i,i<n→0≤xs.getD i 0:=by
 intro i
 induction i with
 |zero=>intro hi;have:=(jv.1 (h 0 hi)).1;simp only[qg,if_true] at this;omega
 |succ i ih=>
  intro hi;have:=(jv.1 (h (i+1) hi)).1;rw[show qg xs (i+1)=xs.getD i 0 from by unfold qg;rw[if_neg (by omega)];rfl] at this;have:=ih (by omega);omega
theorem Vk (w:World)(xs:List Int)(b off cap:Nat)(hl:xs.length≤9223372036854775807)
  (h1: ∀i,i<xs.length→w.cell? ⟨b,off+i,none⟩=some (za (xs.getD i 0))):
  Calls Tryz.prog 82 #[.slice (some ⟨b,off,none⟩) xs.length cap] w fun e w'=>e= .returned (.bool (qS xs))∧qC w w':=by
 go_enter Tryz.func82,Tryz.ntmps82;go_wp2;go_loopw [3] (fun i wr=>qC w wr∧ ∃k:Nat,k≤xs.length∧i=za k∧zK xs k) (fun i _=>xs.length-(intOf i).toNat)
 case atStart=>exact⟨qC.refl _,0,Nat.zero_le _,rfl,zK.zero _⟩
 case round=>
  obtain⟨hal,k,hk,rfl,hR⟩:=hrel;by_cases hlt:k<xs.length
  ·have c1:wr.cell? ⟨b,off+k,none⟩=some (za (xs.getD k 0)):=(hal.cell _).trans (h1 k hlt);have hi:(k:Int)<(xs.length:Int):=by omega
   have HR:Hid (zK xs k):=hR;have HA:Hid (qC w wr):=hal;by_cases hk0:k=0
   ·subst hk0;rw[Nat.add_zero] at c1;have hp:qg xs 0= -1:=rfl;have hF: ¬fol (-1) (xs.getD 0 0)=true→qS xs=false:=fun h=>QG hlt (by rw[hp];exact h);have hS:fol (-1) (xs.getD 0 0)=true→zK xs 1:=fun h=>HR.out.succ (by rw[hp];exact h);generalize xs.getD 0 0=x at*;clear hR hal h1 hp;go_wp2_with fail;refine(qB _ x).mono ?_;rintro e w1 ⟨rfl,rfl⟩;by_cases hg:0≤x∧x<2048
    ·have hg':(decide (0≤x)&&decide (x<2048))=true:=by simpa using hg
     rw[hg'];have Hn:Hid (zK xs 1):=hS (jv.2 ⟨by omega,hg.2⟩);clear hF hS hg' hg;go_wp2;go_quiet (fail);go_wp2;go_roundw
     case rel=>exact⟨HA.out.drewN _,1,by omega,by go_num,Hn.out⟩
     case measure=>simp[intOf];omega
    ·have hg':(decide (0≤x)&&decide (x<2048))=false:=by rw[Bool.eq_false_iff];simpa using hg
     rw[hg'];have Hn:Hid (qS xs=false):=hF (fun h=>hg (by have:=jv.1 h;omega));clear hF hS hg' hg;go_wp2;go_quiet (fail);go_wp2;go_ret;exact⟨by rw[Hn.out];rfl,HA.out.drewN _⟩
   ·obtain⟨j,rfl⟩: ∃j,k=j+1:=⟨k-1,by omega⟩;have c0:wr.cell? ⟨b,off+j,none⟩=some (za (xs.getD j 0)):=(hal.cell _).trans (h1 j (by omega));have hp:qg xs (j+1)=xs.getD j 0:=by unfold qg;rw[if_neg (by omega)];rfl
    have hpos:=HR.out.pos j (by omega);have hF: ¬fol (xs.getD j 0) (xs.getD (j+1) 0)=true→qS xs=false:=fun h=>QG hlt (by rw[hp];exact h);have hS:fol (xs.getD j 0) (xs.getD (j+1) 0)=true→zK xs (j+1+1):=fun h=>HR.out.succ (by rw[hp];exact h);generalize xs.getD (j+1) 0=x at*;generalize xs.getD j 0=y at*;clear hR hal h1 hp;go_wp2_with fail;refine(qB _ x).mono ?_;rintro e w1 ⟨rfl,rfl⟩;by_cases hg:0≤x∧x<2048
    ·have hg':(decide (0≤x)&&decide (x<2048))=true:=by simpa using hg
     rw[hg'];have hj1:(0:Int)<(j:Int)+1:=by omega
     have hj2:(j:Int)<(xs.length:Int):=by omega
     by_cases hy:x≤y
     ·have Hn:Hid (qS xs=false):=hF (fun h=>by have:=jv.1 h;omega);clear hF hS hg' hg;go_wp2;go_quiet (fail);go_wp2;go_ret;exact⟨by rw[Hn.out];rfl,HA.out.drewN _⟩
     ·have Hn:Hid (zK xs (j+1+1)):=hS (jv.2 ⟨by omega,hg.2⟩);clear hF hS hg' hg;go_wp2;go_quiet (fail);go_wp2;go_roundw
      case rel=>exact⟨HA.out.drewN _,j+1+1,by omega,by go_num,Hn.out⟩
      case measure=>simp[intOf];omega
    ·have hg':(decide (0≤x)&&decide (x<2048))=false:=by rw[Bool.eq_false_iff];simpa using hg
     rw[hg'];have Hn:Hid (qS xs=false):=hF (fun h=>hg (by have:=jv.1 h;omega));clear hF hS hg' hg;go_wp2;go_quiet (fail);go_wp2;go_ret;exact⟨by rw[Hn.out];rfl,HA.out.drewN _⟩
  ·obtain rfl:k=xs.length:=by omega
   have hr:=qY.2 hR;have Hr:Hid (qS xs=true):=hr;clear h1 hR hr;go_wp2;go_ret;exact⟨by rw[Hr.out];rfl,hal⟩
theorem Vj (w:World)(ao:Option Addr)(cap:Nat):
  Calls Tryz.prog 82 #[.slice ao 0 cap] w fun e w'=>e= .returned (.bool true)∧qC w w':=by
 go_enter Tryz.func82,Tryz.ntmps82;go_wp2;refine wp_loop_rounds 1 ?_;rw[rounds_succ];go_wp2;go_ret;exact⟨rfl,qC.refl _⟩
theorem Q9 (w:World){lo hi:Nat}{a:Value}{xs:List Int}(h1:zr w lo hi .i64 a xs):
  Calls Tryz.prog 82 #[a] w fun e w'=>e= .returned (.bool (qS xs))∧qC w w':=by
 obtain⟨ao,cap,rfl,hl,_,h1⟩:=h1;rcases h1 with rfl|⟨x,off,rfl,_,_,h1⟩
 ·rw[qY.2 (zK.zero _)];exact Vj w ao cap
 ·exact Vk w xs x off cap hl h1
theorem Nd (w:World)(xs:List Int)(v:Int)(b off cap:Nat)(hl:xs.length≤9223372036854775807)
  (h1: ∀i,i<xs.length→w.cell? ⟨b,off+i,none⟩=some (za (xs.getD i 0))):
  Calls Tryz.prog 83 #[.slice (some ⟨b,off,none⟩) xs.length cap,za v] w fun e w'=>e= .returned (.bool (decide (v∈xs)))∧w'=w:=by
 go_enter Tryz.func83,Tryz.ntmps83;go_wp2;go_loopw [5] (fun i wr=>wr=w∧ ∃k:Nat,k≤xs.length∧i=za k∧v∉xs.take k) (fun i _=>xs.length-(intOf i).toNat)
 case atStart=>exact⟨rfl,0,Nat.zero_le _,rfl,by simp⟩
 case round=>
  obtain⟨rfl,k,hk,rfl,hR⟩:=hrel;by_cases hlt:k<xs.length
  ·have c1:wr.cell? ⟨b,off+k,none⟩=some (za (xs.getD k 0)):=h1 k hlt;have hi:(k:Int)<(xs.length:Int):=by omega
   have hx:xs.getD k 0=xs[k]:=by simp[List.getD_eq_getElem?_getD,hlt]
   by_cases he:xs.getD k 0=v
   ·have Hn:Hid (decide (v∈xs)=true):=by show _=_;rw[decide_eq_true_eq,←he,hx];exact List.getElem_mem hlt
    have hv:(xs.getD k 0==v)=true:=by simpa using he
    generalize xs.getD k 0=x at*;clear h1 hx hR;go_wp2;go_ret;exact⟨by rw[Hn.out];rfl,rfl⟩
   ·have Hn:Hid (v∉xs.take (k+1)):=by
     show v∉_;rw[List.take_succ_eq_append_getElem hlt,List.mem_append,not_or];exact⟨hR,by simp;rw[←hx];exact fun e=>he e.symm⟩
    have hv:(xs.getD k 0==v)=false:=by simpa using he
    generalize xs.getD k 0=x at*;clear h1 hx hR;go_wp2;go_roundw
    case rel=>exact⟨trivial,k+1,by omega,by go_num,Hn.out⟩
    case measure=>simp[intOf];omega
  ·obtain rfl:k=xs.length:=by omega
   rw[List.take_length] at hR;have Hn:Hid (decide (v∈xs)=false):=decide_eq_false hR;clear h1 hR;go_wp2;go_ret;exact⟨by rw[Hn.out];rfl,rfl⟩
theorem Nc (w:World)(v:Int)(ao:Option Addr)(cap:Nat):
  Calls Tryz.prog 83 #[.slice ao 0 cap,za v] w fun e w'=>e= .returned (.bool false)∧w'=w:=by
 go_enter Tryz.func83,Tryz.ntmps83;go_wp2;refine wp_loop_rounds 1 ?_;rw[rounds_succ];go_wp2;go_ret;exact⟨rfl,rfl⟩
theorem Yr (w:World){lo hi:Nat}{a:Value}{xs:List Int}(v:Int)(h1:zr w lo hi .i64 a xs):
  Calls Tryz.prog 83 #[a,za v] w fun e w'=>e= .returned (.bool (decide (v∈xs)))∧w'=w:=by
 obtain⟨ao,cap,rfl,hl,_,h1⟩:=h1;rcases h1 with rfl|⟨x,off,rfl,_,_,h1⟩
 ·exact Nc w v ao cap
 ·exact Nd w xs v x off cap hl h1
theorem zi.some_of {w:World}{base:Nat}{e:TypeId}{v:Value}{xs:List Int}(h:zi w base e v xs)(h0:0<xs.length): ∃g c,v= .slice (some (zd g)) xs.length c:=by
 rcases h.2 with⟨_,h'⟩|⟨g,gc,cur,rfl,_⟩
 ·omega
 ·exact⟨g,gc,rfl⟩
theorem zi.seen {w:World}{base:Nat}{e:TypeId}{v:Value}{xs:List Int}(h:zi w base e v xs)(hl:xs.length≤1048576):zr w base w.heap.size .u8 v xs:=
 h.view (by omega) (fun g hg=>(h.lt g hg).2)
theorem zi.bnil (w:World)(base:Nat)(h:base≤w.heap.size):zi (w.alloc (.cells #[] 5)) base 5 (.slice (some (zd w.heap.size)) 0 0) []:=by
 have:=World.ownsRow_lit (base:=base) (e:=5) (size:=1) w #[] 0 h (by unfold maxLen;omega) rfl;simpa [zi] using this
theorem Qp {k c q:Int}(hc:(zk c 2).length=2)(hq:(zk q 4).length=4):(zm k c q).length=12:=by
 unfold zm mg;simp[hc,hq]
theorem zK.bound {xs:List Int}{n:Nat}(h:zK xs n)(hn:xs.length≤n): ∀x∈xs,0≤x∧x<2048:=by
 intro x hx;obtain⟨i,hi,rfl⟩:=List.mem_iff_getElem.1 hx;have h1:=h.pos i (by omega);have h2:=(jv.1 (h i (by omega))).2;have e:xs.getD i 0=xs[i]:=by simp[List.getD_eq_getElem?_getD,hi]
 rw[e] at h1 h2;exact⟨h1,h2⟩
theorem zK.ahead {xs:List Int}{n j:Nat}(h:zK xs n)(hj:j+1<n):xs.getD j 0<xs.getD (j+1) 0:=by
 have:=(jv.1 (h (j+1) hj)).1;rwa [show qg xs (j+1)=xs.getD j 0 from by unfold qg;rw[if_neg (by omega)];rfl] at this
theorem Xk (w:World){lo hi:Nat}{a:Value}{xs:List Int}(hl:xs.length≤64)(h1:zr w lo hi .u8 a xs):
  Calls Tryz.prog 88 #[a] w fun e w'=> ∃v,e= .returned v∧zi w' w.heap.size 5 v (qc xs)∧Chg 0 0 w w':=by
 have v0:=h1;obtain⟨ao,cap,rfl,_,_,_⟩:=h1;obtain⟨n,hn⟩: ∃n:Nat,n=64-xs.length:=⟨_,rfl⟩;have hN:Calls Tryz.prog 44 #[za (64-(xs.length:Int))] w fun e w'=> ∃g,e= .returned (.slice (some (zd g)) n n)∧zi w' w.heap.size 5 (.slice (some (zd g)) n n) (List.replicate n 0)∧Chg 0 0 w w':=by
  have:=qM w n (by omega);rwa [show((n:Nat):Int)=64-(xs.length:Int) by omega] at this
 have Hn:Hid _:=hn;clear hn;go_enter Tryz.func88,Tryz.ntmps88;go_wp2_with fail;refine hN.mono ?_;rintro e w1 ⟨g,rfl,ho,hc⟩;have hs:=hc.size;have hN2:=zX (xs:=xs) (ys:=List.replicate n 0) (lo':=w.heap.size) w1 (by omega) (by simp;have:=Hn.out;omega) (v0.chg hc (by omega)) (ho.view (hi:=w1.heap.size) (by simp;have:=Hn.out;omega) (fun g hg=>(ho.lt g hg).2));clear hN ho v0;go_wp2_with fail;refine hN2.mono ?_
 rintro e w2 ⟨v,rfl,o2,hc2⟩;have HO:Hid (zi w2 w.heap.size 5 v (qc xs)):=by
  show zi _ _ _ _ _;unfold qc;rw[←Hn.out];exact o2.base (fun g hg=>by have:=(o2.lt g hg).1;omega)
 have HC:Hid _:=hc.trans hc2;clear hN2 o2 hc2 hc;go_wp2;go_ret;exact⟨_,rfl,HO.out,HC.out⟩
theorem XW (w:World)(q:Int)(xs:List Int)(b off cap:Nat)(hq0:1≤q)(hq1:q≤4294967295)(hl0:1≤xs.length)(hl:xs.length≤26)(hR:zK xs xs.length)
  (h1: ∀i,i<xs.length→w.cell? ⟨b,off+i,none⟩=some (za (xs.getD i 0))):
  Calls Tryz.prog 84 #[.agg #[za q,.slice (some ⟨b,off,none⟩) xs.length cap]] w fun e w'=> ∃v,e= .returned v∧zi w' w.heap.size 5 v (qc (zm 3 xs.length q++z8 xs))∧Chg 0 0 w w':=by
 have C0:Chg 0 0 w (w.alloc (.cells #[za q,.slice (some ⟨b,off,none⟩) xs.length cap] 168)):=Chg.alloc (Chg.refl 0 0 w) _;have B0:=zh w (.cells #[za q,.slice (some ⟨b,off,none⟩) xs.length cap] 168);have hc2:=pn2 (v:=(xs.length:Int)) (by omega) (by omega);have hq4:=pn4 (v:=q) (by omega) hq1;have HY:Hid ((zm 3 (xs.length:Int) q).length=12):=Qp hc2 hq4;have hsq:=fun w=>jp w q;rw[show qf q=true from by unfold qf;rw[←Bool.decide_and];exact decide_eq_true ⟨hq0,hq1⟩] at hsq
 have hhd:=fun w=>ZN w 3 (xs.length:Int) q (by omega) (by omega) (by omega) hc2 hq4;have HR:Hid (zK xs xs.length):=hR;have H1:Hid (∀i,i<xs.length→w.cell? ⟨b,off+i,none⟩=some (za (xs.getD i 0))):=h1;have s0:(w.alloc (.cells #[za q,.slice (some ⟨b,off,none⟩) xs.length cap] 168)).heap.size=w.heap.size+1:=by simp
 obtain⟨n,hn⟩: ∃n,n=xs.length:=⟨_,rfl⟩;have Hn:Hid (n=xs.length):=hn;rw[←hn] at hl0 hl hhd HY B0 C0 s0⊢;clear hR h1 hc2 hq4 hn;obtain⟨k0,k1,_,_⟩:=zn B0;go_enter Tryz.func84,Tryz.ntmps84;go_wp2_with fail;generalize w.alloc (.cells #[za q,.slice (some ⟨b,off,none⟩) n cap] 168)=w0 at*;refine(hsq _).mono ?_;rintro e w1 ⟨rfl,rfl⟩;have hn1: ¬((n:Int)<1):=by omega
 have hn2: ¬((26:Int)<(n:Int)):=by omega
 clear hsq;go_wp2_with fail;clear hn1 hn2;refine(hhd _).mono ?_;rintro e w2 ⟨v2,rfl,o2,h2⟩;have HB2:Hid (w2.heap[w.heap.size]?=some (.cells #[za q,.slice (some ⟨b,off,none⟩) n cap] 168 (0,0))):=(h2.block _ (by omega) (by omega)).trans B0;obtain⟨g2,gc2,rfl⟩:=o2.some_of (by rw[HY.out];omega);rw[HY.out] at o2⊢;have HO2:Hid (zi w2 (w.heap.size+1) 5 (.slice (some (zd g2)) 12 gc2) (zm 3 (n:Int) q)):=o2.base (fun g hg=>by have:=(o2.lt g hg).1;omega)
 have HC2:Hid (Chg 0 0 w w2):=C0.trans h2;clear hhd o2 h2 B0 C0 k0 k1;go_wp2;go_loopw [5,6] (fun o x wr=> ∃k:Nat,k≤n∧x=za k∧(∃g cp,o= .slice (some (zd g)) (12+2*k) cp)∧zi wr (w.heap.size+1) 5 o (zm 3 (n:Int) q++z8 (xs.take k))∧wr.heap[w.heap.size]?=some (.cells #[za q,.slice (some ⟨b,off,none⟩) n cap] 168 (0,0))∧Chg 0 0 w wr) (fun _ x _=>n-(intOf x).toNat)
 case atStart=>exact⟨0,Nat.zero_le _,rfl,⟨_,_,rfl⟩,by rw[List.take_zero];show zi _ _ _ _ (_++ []);rw[List.append_nil];exact HO2.out,HB2.out,HC2.out⟩
 case round=>
  clear HO2 HB2 HC2;obtain⟨k,hk,rfl,⟨g,cp,rfl⟩,ho,hb,hc⟩:=hrel;have HBx:=HR.out.bound (Nat.le_refl _);have hyl:(zm 3 (n:Int) q++z8 (xs.take k)).length=12+2*k:=by rw[List.length_append,HY.out,Qq (fun x hx=>HBx x (List.mem_of_mem_take hx)),List.length_take];have:=Hn.out;omega
  by_cases hlt:k<n
  ·have hltx:k<xs.length:=by have:=Hn.out;omega
   have c1:=hc.cell (H1.out k hltx) (by omega);have hi:(k:Int)<(n:Int):=by omega
   have hx:xs.getD k 0=xs[k]:=by simp[List.getD_eq_getElem?_getD,hltx]
   obtain⟨g0,g1⟩:=HBx _ (List.getElem_mem hltx);rw[←hx] at g0 g1;obtain⟨k0,k1,_,_⟩:=zn hb;have HC:Hid (Chg 0 0 w wr):=hc;have HO:Hid (zi wr (w.heap.size+1) 5 (.slice (some (zd g)) (12+2*k) cp) (zm 3 (n:Int) q++z8 (xs.take k))):=ho;have HB:Hid (wr.heap[w.heap.size]?=some (.cells #[za q,.slice (some ⟨b,off,none⟩) n cap] 168 (0,0))):=hb;have HT:Hid (zm 3 (n:Int) q++z8 (xs.take (k+1))=zm 3 (n:Int) q++z8 (xs.take k)++zk (xs.getD k 0) 2):=by show _=_;rw[KH hltx,←List.append_assoc]
   have H2:Hid _:=jP ⟨g0,g1⟩;have HYl:Hid _:=hyl;have hN:=qB wr (xs.getD k 0);rw[show(decide (0≤xs.getD k 0)&&decide (xs.getD k 0<2048))=true from by rw[decide_eq_true g0,decide_eq_true g1];rfl] at hN;have fin: ∀w2:World,qC wr w2→Hid (zi w2 (w.heap.size+1) 5 (.slice (some (zd g)) (12+2*k) cp) (zm 3 (n:Int) q++z8 (xs.take k))∧w2.heap[w.heap.size]?=some (.cells #[za q,.slice (some ⟨b,off,none⟩) n cap] 168 (0,0))∧Chg 0 0 w w2):=fun w2 h=>⟨HO.out.chg (h.chg 0 0) (by intro g _;omega),by rw[h.heap];exact HB.out,HC.out.trans (h.chg 0 0)⟩
   have HF:Hid _:=fin;clear fin;have HXk:Hid (∀j,k=j+1→wr.cell? ⟨b,off+j,none⟩=some (za (xs.getD j 0))∧xs.getD j 0<xs.getD k 0):=fun j e=>⟨hc.cell (H1.out j (by omega)) (by omega),by rw[e];exact HR.out.ahead (by omega)⟩;generalize xs.getD k 0=y at*;generalize zm 3 (n:Int) q++z8 (xs.take k)=L at*;clear ho hc hx hb HBx hyl HB HC HO;go_wp2_with fail;refine hN.mono ?_;rintro e w2 ⟨rfl,rfl⟩;clear hN;by_cases hk0:k=0
   ·subst hk0;rw[Nat.add_zero] at c1;clear HXk;go_wp2;go_quiet (fail);go_wp2_with fail;have hf:=HF.out _ ((qC.refl w2).drewN nq);have sw:w2.heap.size=(w2.drewN nq).heap.size:=rfl;generalize w2.drewN nq=w3 at*;have HO3:Hid (zi w3 (w.heap.size+1) 5 (.slice (some (zd g)) (12+2*0) cp) L):=hf.out.1;have HB3:Hid _:=hf.out.2.1;have HC3:Hid _:=hf.out.2.2;clear hf HF sw;have hN:=zI w3 y 2 (by omega);refine hN.mono ?_
    rintro e w4 ⟨r,rfl,or',h4⟩;have s3:=(gLt HB3.out);have s4:=h4.size;have HO4:Hid (zi w4 (w.heap.size+1) 5 (.slice (some (zd g)) (12+2*0) cp) L):=HO3.out.chg h4 (by intro g _;omega);have HV4:Hid (zr w4 w3.heap.size w4.heap.size .u8 r (zk y 2)):=or'.view (by rw[H2.out];omega) (fun g hg=>(or'.lt g hg).2);have HC4:Hid _:=HC3.out.trans h4;have HB4:Hid _:=(h4.block _ (gLt HB3.out) (by omega)).trans HB3.out
    obtain⟨r0,r1,r2,rfl⟩:=zx or';clear hN or' h4 HO3 HB3 HC3;go_wp2_with (at_builtin;refine zV rfl (.tmp 61) (.tmp 67) rfl (w.heap.size+1) _ L rfl HO4.out (by omega) _ _ _ (zk y 2) rfl HV4.out (by rw[H2.out];omega) (by rw[H2.out,HYl.out];omega) ?_);intro v' w5 ho5 hc5;have HO5:Hid (zi w5 (w.heap.size+1) 5 v' (zm 3 (n:Int) q++z8 (xs.take (0+1)))):=by show zi _ _ _ _ _;rw[HT.out];exact ho5
    have HC5:Hid _:=HC4.out.step hc5 (by omega);have hlt5:=(gLt HB4.out);have HB5:Hid _:=(hc5.block _ hlt5 (by omega)).trans HB4.out;have HV5:Hid (∃g cp,v'= .slice (some (zd g)) (12+2*(0+1)) cp):=by
     have hl5:(zm 3 (n:Int) q++z8 (xs.take (0+1))).length=12+2*(0+1):=by have e:=congrArg List.length HT.out;have e2:(L++zk y 2).length=L.length+(zk y 2).length:=List.length_append;rw[H2.out,HYl.out] at e2;omega
     obtain⟨g',c',e'⟩:=HO5.out.some_of (by rw[hl5];omega);exact⟨g',c',by rw[e',hl5]⟩
    clear ho5 hc5 HV4 HO4;go_wp2;go_roundw
    case rel=>exact⟨0+1,by omega,by go_num,HV5.out,HO5.out,HB5.out,HC5.out⟩
    case measure=>simp[intOf];omega
   ·obtain⟨j,rfl⟩: ∃j,k=j+1:=⟨k-1,by omega⟩;obtain⟨c0,hjy⟩:=HXk.out j rfl;have hj1:(0:Int)<(j:Int)+1:=by omega
    have hj2:(j:Int)<(n:Int):=by omega
    generalize xs.getD j 0=z at*;have hzy: ¬y≤z:=by omega
    clear HXk;go_wp2;go_quiet (fail);go_wp2_with fail;have hf:=HF.out _ ((qC.refl w2).drewN nq);have sw:w2.heap.size=(w2.drewN nq).heap.size:=rfl;generalize w2.drewN nq=w3 at*;have HO3:Hid (zi w3 (w.heap.size+1) 5 (.slice (some (zd g)) (12+2*(j+1)) cp) L):=hf.out.1;have HB3:Hid _:=hf.out.2.1;have HC3:Hid _:=hf.out.2.2;clear hf HF sw;have hN:=zI w3 y 2 (by omega);refine hN.mono ?_;rintro e w4 ⟨r,rfl,or',h4⟩
    have s3:=(gLt HB3.out);have s4:=h4.size;have HO4:Hid (zi w4 (w.heap.size+1) 5 (.slice (some (zd g)) (12+2*(j+1)) cp) L):=HO3.out.chg h4 (by intro g _;omega);have HV4:Hid (zr w4 w3.heap.size w4.heap.size .u8 r (zk y 2)):=or'.view (by rw[H2.out];omega) (fun g hg=>(or'.lt g hg).2);have HC4:Hid _:=HC3.out.trans h4;have HB4:Hid _:=(h4.block _ (gLt HB3.out) (by omega)).trans HB3.out;obtain⟨r0,r1,r2,rfl⟩:=zx or'
    clear hN or' h4 HO3 HB3 HC3;go_wp2_with (at_builtin;refine zV rfl (.tmp 61) (.tmp 67) rfl (w.heap.size+1) _ L rfl HO4.out (by omega) _ _ _ (zk y 2) rfl HV4.out (by rw[H2.out];omega) (by rw[H2.out,HYl.out];omega) ?_);intro v' w5 ho5 hc5;have HO5:Hid (zi w5 (w.heap.size+1) 5 v' (zm 3 (n:Int) q++z8 (xs.take ((j+1)+1)))):=by show zi _ _ _ _ _;rw[HT.out];exact ho5
    have HC5:Hid _:=HC4.out.step hc5 (by omega);have hlt5:=(gLt HB4.out);have HB5:Hid _:=(hc5.block _ hlt5 (by omega)).trans HB4.out;have HV5:Hid (∃g cp,v'= .slice (some (zd g)) (12+2*((j+1)+1)) cp):=by
     have hl5:(zm 3 (n:Int) q++z8 (xs.take ((j+1)+1))).length=12+2*((j+1)+1):=by have e:=congrArg List.length HT.out;have e2:(L++zk y 2).length=L.length+(zk y 2).length:=List.length_append;rw[H2.out,HYl.out] at e2;omega
     obtain⟨g',c',e'⟩:=HO5.out.some_of (by rw[hl5];omega);exact⟨g',c',by rw[e',hl5]⟩
    clear ho5 hc5 HV4 HO4;go_wp2;go_roundw
    case rel=>exact⟨(j+1)+1,by omega,by go_num,HV5.out,HO5.out,HB5.out,HC5.out⟩
    case measure=>simp[intOf];omega
  ·obtain rfl:k=n:=by omega
   have ht:xs.take k=xs:=List.take_of_length_le (by have:=Hn.out;omega);rw[ht] at ho hyl;have sz:=hc.size;have hN:=Xk wr (by rw[hyl];omega) (ho.view (hi:=wr.heap.size) (by rw[hyl];omega) (fun g hg=>(ho.lt g hg).2));have HC:Hid _:=hc;have hge: ¬((k:Int)<(k:Int)):=by omega
   clear ho hb hc HBx;go_wp2_with fail;refine hN.mono ?_;rintro e w2 ⟨v,rfl,o2,h2⟩;have HO2:Hid (zi w2 w.heap.size 5 v (qc (zm 3 (k:Int) q++z8 xs))):=o2.base (fun g hg=>by have:=(o2.lt g hg).1;omega);have HC2:Hid _:=HC.out.trans h2;clear hN o2 h2;go_wp2;go_ret;exact⟨_,rfl,HO2.out,HC2.out⟩
def jD (xs:List Int) (esc:Bool):List Int:=if esc=true then mg++xs.drop 4 else xs
def Zt (xs:List Int) (esc:Bool):Bool:=if esc=true then decide (xs.take 4= [0,0,0,0]) else !decide (xs.take 4=mg)
theorem QF {P:Program}{fn:Func}{p1 p3:Tmp}{t1:TypeId}{w:World}{tmps:Array Value}{a1:Addr}{v1 v3:Value}(h:fn.results= #[.cell p1 t1,.tmp p3])(h1:tmps.getD p1 undef= .pointer (some a1))(h3:tmps.getD p3 undef=v3)
  (hl1:(loadVar t1 a1).run P w= .ok v1 w):(results fn tmps).run P w= .ok (.tuple #[v1,v3]) w:=by
 have h1':tmps[p1]?.getD undef= .pointer (some a1):=by simpa using h1
 have h3':tmps[p3]?.getD undef=v3:=by simpa using h3
 simp only[results,h];simp[asAddr,h1',h3',hl1]
theorem Jw (w:World)(xs:List Int)(esc:Bool){tL tM tK:TypeId}{vL vM vK:Value}(hx:xs.length=64)(hB:Byt xs)(hG:jl w tL tM tK vL vM vK):
  Calls Tryz.prog 151 #[.agg (xs.map (Value.int .u8)).toArray,.bool esc] w fun e w'=>e= .returned (.tuple #[.agg ((jD xs esc).map (Value.int .u8)).toArray,.bool (Zt xs esc)])∧Chg 0 0 w w':=by
 obtain⟨cs,hcs⟩: ∃cs,cs=xs.map (Value.int .u8):=⟨_,rfl⟩;have L1:cs.length=64:=by rw[hcs];simpa using hx
 have L2: ∀v∈cs,v.oneCell'=true:=by rw[hcs];exact ints_oneCell _ _
 have HL1:Hid _:=L1;have HL2:Hid _:=L2;have Hcs:Hid _:=hcs;have Hx:Hid _:=hx;have HB:Hid (Byt xs):=hB;have hi44:(Tryz.prog.info? 72).map (·.size)=some cs.length:=by rw[L1];kernel_rfl
 have u44:=Tryz.underlying72;rw[←hcs];obtain⟨z1,z2,z3⟩:=zN w (.cells cs.toArray 72) (.cells Z64.toArray 72);have hA:Chg 0 0 w ((w.alloc (.cells cs.toArray 72)).alloc (.cells Z64.toArray 72)):=(Chg.alloc (Chg.refl 0 0 w) _).alloc _;obtain⟨h0,h1,h2,h3,h4,h5,h6,e7,hmg⟩: ∃h0 h1 h2 h3 h4 h5 h6:Int,hd7 xs= #[zb h0,zb h1,zb h2,zb h3,za h4,za h5,za h6]∧xs.take 4= [h0,h1,h2,h3]:=by
  refine⟨_,_,_,_,_,_,_,rfl,?_⟩
  match xs,hx with
  |a::b::c::d::r,_=>simp
 have Hmg:Hid _:=hmg;have He7:Hid _:=e7;have HGl:Hid _:=hG;clear L1 L2 hcs hx hB hG e7 hmg;go_enter Tryz.func151,Tryz.ntmps151;go_upto_region 1 with fail;simp only[zM];generalize (w.alloc (.cells cs.toArray 72)).alloc (.cells Z64.toArray 72)=wa at*;have Hz2:Hid _:=z2;have Hz3:Hid _:=z3;have HA:Hid _:=hA;have HR:Hid _:=zj z2;have hN:=ZZ wa xs Hx.out HB.out;rw[←Hcs.out,He7.out] at hN;have hN2:=fun w'=>Jb w' h0 h1 h2 h3 h4 h5 h6
 clear z2 z3 hA;go_upto_region 2 with(first
  |(refine wpList_load_mid rfl 72 (.tmp 2) rfl w.heap.size 0 rfl cs _ HR.out u44 rfl hi44 ?_)
  |(refine hN.mono ?_;rintro e w1 ⟨rfl,hc1⟩)
  |(refine(hN2 _).mono ?_;rintro e w2 ⟨rfl,hc2⟩))
 have s1:=hc1.size;have s2:=hc2.size;have C2:=hc1.trans hc2;have C3:Chg 0 0 w2 (w2.alloc (.cells #[zb h0,zb h1,zb h2,zb h3] 136)):=Chg.alloc (Chg.refl 0 0 w2) _;have C13:=C2.trans C3;have HLd:Hid ((w2.alloc (.cells #[zb h0,zb h1,zb h2,zb h3] 136)).heap[w2.heap.size]?=some (.cells (List.toArray [zb h0,zb h1,zb h2,zb h3]) 136 (0,0))):=zh _ _;have HD:Hid _:=(C13.block w.heap.size (by omega) (by omega)).trans Hz2.out
 have HQ:Hid _:=(C13.block (w.heap.size+1) (by omega) (by omega)).trans Hz3.out;have HCw:Hid _:=HA.out.trans C13;have hG3:=HGl.out.chg HCw.out (Or.inl (Nat.le_refl 0));have HMm:Hid (_∧_∧_∧_):=⟨hG3.m0,hG3.m1,hG3.m2,hG3.m3⟩;have hgm:=zF HGl.out.m0;have HRl:Hid _:=HL1.out;have HRo:Hid _:=HL2.out;clear C2 C3 C13 hG3 hc1 hc2 HR hN hN2 Hz2 Hz3 HA HGl;generalize (w2.alloc (.cells #[zb h0,zb h1,zb h2,zb h3] 136))=w3 at*
 cases esc
 ·go_upto_region 3 with fail;have HS:Hid ((fun w':World=>(w'.heap[w.heap.size]?=some (.cells cs.toArray 72 (0,0))∧w'.heap[w2.heap.size]?=some (.cells (List.toArray [zb h0,zb h1,zb h2,zb h3]) 136 (0,0)))∧(w'.cell? (zd 0)=some (zb 106)∧w'.cell? ⟨0,1,none⟩=some (zb 108)∧w'.cell? ⟨0,2,none⟩=some (zb 111)∧w'.cell? ⟨0,3,none⟩=some (zb 103))) w3.drew):=⟨⟨HD.out,HLd.out⟩,HMm.out⟩;refine zp (fun w':World=>(w'.heap[w.heap.size]?=some (.cells cs.toArray 72 (0,0))∧w'.heap[w2.heap.size]?=some (.cells (List.toArray [zb h0,zb h1,zb h2,zb h3]) 136 (0,0)))∧(w'.cell? (zd 0)=some (zb 106)∧w'.cell? ⟨0,1,none⟩=some (zb 108)∧w'.cell? ⟨0,2,none⟩=some (zb 111)∧w'.cell? ⟨0,3,none⟩=some (zb 103))) (by kernel_rfl) ?_
  refine zv 0 (.agg cs.toArray) rfl (by kernel_rfl) (by kernel_rfl) (by kernel_rfl) (fun _ _ _ h=>h) (yieldsIf_load_mid (by kernel_rfl) 72 (.tmp 2) rfl w.heap.size 0 rfl cs _ (fun w' hw'=>zj hw'.1.1) Tryz.underlying72 rfl hi44) HS.out ?_;go_simp;refine zv 1 (.agg (List.toArray [zb h0,zb h1,zb h2,zb h3])) rfl (by kernel_rfl) (by kernel_rfl) (by kernel_rfl) (fun _ _ _ h=>h) (yieldsIf_load_mid (by kernel_rfl) 136 (.tmp 6) rfl w2.heap.size 0 rfl [zb h0,zb h1,zb h2,zb h3] _ (fun w' hw'=>zj hw'.1.2) Tryz.underlying136 rfl (by kernel_rfl)) HS.out ?_
  go_simp;refine hTk 2 (.agg #[zb 106,zb 108,zb 111,zb 103]) rfl (fun w' hw'=>by obtain⟨_,m0,m1,m2,m3⟩:=hw';go_simp) HS.out ?_;go_simp;have heq:=fun w'=>qW w' 136 4 Tryz.underlying136 (xs:= [h0,h1,h2,h3]) (ys:=mg) (by rw[←Hmg.out];exact HB.out.take 4) Ul rfl rfl;obtain⟨bm,hbm⟩: ∃bm,bm=decide (xs.take 4=mg):=⟨_,rfl⟩;have hb4:decide ([h0,h1,h2,h3]=mg)=bm:=by rw[hbm,Hmg.out]
  simp only[hb4] at heq;simp only[mg,List.map_cons,List.map_nil] at heq;have Hbm:Hid _:=hbm;clear hb4 hbm;refine hTk 3 (.bool (!bm)) rfl (fun w' hw'=>by have h9:=heq w';simp only[execOp,Act.eval];go_simp) HS.out ?_;go_simp;clear heq;refine zg 4 rfl rfl (by kernel_rfl) ?_;refine wp_store_row 72 (.tmp 4) (.tmp 14) rfl rfl (w.heap.size+1) rfl cs Z64 72 rfl HQ.out (by rw[zD];exact HRl.out) hi44 HRo.out ?_
  intro w9 hb9 hc9;have HS9:Hid ((fun w':World=>(w'.heap[w.heap.size]?=some (.cells cs.toArray 72 (0,0))∧w'.heap[w2.heap.size]?=some (.cells (List.toArray [zb h0,zb h1,zb h2,zb h3]) 136 (0,0)))∧(w'.cell? (zd 0)=some (zb 106)∧w'.cell? ⟨0,1,none⟩=some (zb 108)∧w'.cell? ⟨0,2,none⟩=some (zb 111)∧w'.cell? ⟨0,3,none⟩=some (zb 103))) w9):=⟨⟨(hc9.block w.heap.size (gLt HS.out.1.1) (by omega)).trans HS.out.1.1,(hc9.block w2.heap.size (gLt HS.out.1.2) (by omega)).trans HS.out.1.2⟩,hc9.cell HS.out.2.1 (by omega),hc9.cell HS.out.2.2.1 (by omega),hc9.cell HS.out.2.2.2.1 (by omega),hc9.cell HS.out.2.2.2.2 (by omega)⟩
  have Hb9:Hid _:=hb9;have HC9:Hid _:=HCw.out.step ((Chg.drew (Chg.refl (w.heap.size+1) (w.heap.size+1+1) w3)).trans hc9) (by omega);refine⟨HS9.out,?_⟩;clear hb9 hc9;go_simp;refine zg 5 rfl rfl (by kernel_rfl) ?_;refine qA (v:= .bool (!bm)) (w':=w9) (by first|kernel_rfl|go_simp) ⟨HS9.out,?_⟩;go_simp;refine zt (by kernel_rfl) (NoPanic.normal ?_);go_wp2;have hl1:(loadVar 72 (zd (w.heap.size+1))).run Tryz.prog w9= .ok (.agg cs.toArray) w9:=run_loadVar_mid _ _ _ _ cs _ (zj Hb9.out) Tryz.underlying72 rfl hi44
  refine bodyPost_ret (v:= .tuple #[.agg cs.toArray,.bool (!bm)]) (QF Tryz.results151 rfl rfl hl1) rfl ⟨?_,HC9.out⟩;rw[Hcs.out,Hbm.out];rfl
 ·obtain⟨c0,c1,c2,c3,cr,ecs⟩: ∃c0 c1 c2 c3 cr,cs=c0::c1::c2::c3::cr:=by
   have:=HL1.out
   match cs,this with
   |a::b::c::d::r,_=>exact⟨a,b,c,d,r,rfl⟩
  have Hecs:Hid _:=ecs;have hd3:=HD.out;rw[ecs] at hd3;obtain⟨k0,k1,k2,k3,f0,f1,f2,f3⟩:w3.cell? (zd w.heap.size)=some c0∧w3.cell? ⟨w.heap.size,1,none⟩=some c1∧w3.cell? ⟨w.heap.size,2,none⟩=some c2∧w3.cell? ⟨w.heap.size,3,none⟩=some c3∧w3.frozen? (zd w.heap.size)=false∧w3.frozen? ⟨w.heap.size,1,none⟩=false∧w3.frozen? ⟨w.heap.size,2,none⟩=false∧w3.frozen? ⟨w.heap.size,3,none⟩=false:=by
   simp[World.cell?,World.frozen?,hd3]
  obtain⟨m0,m1,m2,m3⟩:=HMm.out;have Hd3:Hid _:=hd3;have i0: ∀w':World,(Instr.index 136 (.agg #[zb 106,zb 108,zb 111,zb 103]) (za 0)).run Tryz.prog w'= .ok (zb 106) w':=fun w'=>by kernel_rfl
  have i1: ∀w':World,(Instr.index 136 (.agg #[zb 106,zb 108,zb 111,zb 103]) (za 1)).run Tryz.prog w'= .ok (zb 108) w':=fun w'=>by kernel_rfl
  have i2: ∀w':World,(Instr.index 136 (.agg #[zb 106,zb 108,zb 111,zb 103]) (za 2)).run Tryz.prog w'= .ok (zb 111) w':=fun w'=>by kernel_rfl
  have i3: ∀w':World,(Instr.index 136 (.agg #[zb 106,zb 108,zb 111,zb 103]) (za 3)).run Tryz.prog w'= .ok (zb 103) w':=fun w'=>by kernel_rfl
  clear ecs hd3;go_wp2;refine wp_loop_rounds 5 ?_;rw[rounds_succ];go_wp2;rw[rounds_succ];go_wp2;rw[rounds_succ];go_wp2;rw[rounds_succ];go_wp2;rw[rounds_succ];go_wp2;have C4:Chg w.heap.size (w.heap.size+1) w3 ((((w3.setCell (zd w.heap.size) (zb 106)).setCell ⟨w.heap.size,1,none⟩ (zb 108)).setCell ⟨w.heap.size,2,none⟩ (zb 111)).setCell ⟨w.heap.size,3,none⟩ (zb 103)):=(((Chg.setCell (p:=(zd w.heap.size)) (Chg.refl _ _ _) (Or.inl ⟨Nat.le_refl _,Nat.lt_succ_self _⟩) _).setCell (p:=⟨w.heap.size,1,none⟩) (Or.inl ⟨Nat.le_refl _,Nat.lt_succ_self _⟩) _).setCell (p:=⟨w.heap.size,2,none⟩) (Or.inl ⟨Nat.le_refl _,Nat.lt_succ_self _⟩) _).setCell (p:=⟨w.heap.size,3,none⟩) (Or.inl ⟨Nat.le_refl _,Nat.lt_succ_self _⟩) _
  have D4:((((w3.setCell (zd w.heap.size) (zb 106)).setCell ⟨w.heap.size,1,none⟩ (zb 108)).setCell ⟨w.heap.size,2,none⟩ (zb 111)).setCell ⟨w.heap.size,3,none⟩ (zb 103)).heap[w.heap.size]?=some (.cells (List.toArray (zb 106::zb 108::zb 111::zb 103::cr)) 72 (0,0)):=by
   have e0:=heap_setCell_same w3 w.heap.size 0 _ _ (zb 106) Hd3.out;have e1:=heap_setCell_same _ w.heap.size 1 _ _ (zb 108) e0;have e2:=heap_setCell_same _ w.heap.size 2 _ _ (zb 111) e1;have e3:=heap_setCell_same _ w.heap.size 3 _ _ (zb 103) e2;simpa using e3
  generalize ((((w3.setCell (zd w.heap.size) (zb 106)).setCell ⟨w.heap.size,1,none⟩ (zb 108)).setCell ⟨w.heap.size,2,none⟩ (zb 111)).setCell ⟨w.heap.size,3,none⟩ (zb 103))=w4 at*;obtain⟨ds,hds⟩: ∃ds,ds=Value.int .u8 106::zb 108::zb 111::zb 103::cr:=⟨_,rfl⟩;have hdm:ds=(jD xs true).map (Value.int .u8):=by
   have h1:=Hcs.out;have h2:=Hx.out;rw[Hecs.out] at h1;rw[hds]
   match xs,h2,h1 with
   |a::b::c::d::r,_,h1=>
    simp only[List.map_cons,List.cons.injEq] at h1;obtain⟨_,_,_,_,rfl⟩:=h1;simp[jD,mg]
  have Hdm:Hid _:=hdm;have HRl2:Hid (ds.length=64):=by
   have h1:=HL1.out;rw[Hecs.out] at h1;show ds.length=64;rw[hds];simpa using h1
  have HRo2:Hid (∀v∈ds,v.oneCell'=true):=by
   show∀v∈ds,v.oneCell'=true;rw[hdm];exact ints_oneCell _ _
  have hids:(Tryz.prog.info? 72).map (·.size)=some ds.length:=by rw[HRl2.out];kernel_rfl
  rw[←hds] at D4;have HD4:Hid _:=D4;have HLd4:Hid _:=(C4.block w2.heap.size (gLt HLd.out) (by omega)).trans HLd.out;have HQ4:Hid _:=(C4.block (w.heap.size+1) (gLt HQ.out) (by omega)).trans HQ.out;have HCw4:Hid _:=HCw.out.step C4 (by omega);have HMm4:Hid (_∧_∧_∧_):=⟨C4.cell HMm.out.1 (by omega),C4.cell HMm.out.2.1 (by omega),C4.cell HMm.out.2.2.1 (by omega),C4.cell HMm.out.2.2.2 (by omega)⟩;clear C4 D4 hds hdm k0 k1 k2 k3 f0 f1 f2 f3 m0 m1 m2 m3 i0 i1 i2 i3 HD HLd HQ HCw HMm Hd3
  have HS:Hid ((fun w':World=>(w'.heap[w.heap.size]?=some (.cells ds.toArray 72 (0,0))∧w'.heap[w2.heap.size]?=some (.cells (List.toArray [zb h0,zb h1,zb h2,zb h3]) 136 (0,0)))∧(w'.cell? (zd 0)=some (zb 106)∧w'.cell? ⟨0,1,none⟩=some (zb 108)∧w'.cell? ⟨0,2,none⟩=some (zb 111)∧w'.cell? ⟨0,3,none⟩=some (zb 103))) w4.drew):=⟨⟨HD4.out,HLd4.out⟩,HMm4.out⟩;refine zp (fun w':World=>(w'.heap[w.heap.size]?=some (.cells ds.toArray 72 (0,0))∧w'.heap[w2.heap.size]?=some (.cells (List.toArray [zb h0,zb h1,zb h2,zb h3]) 136 (0,0)))∧(w'.cell? (zd 0)=some (zb 106)∧w'.cell? ⟨0,1,none⟩=some (zb 108)∧w'.cell? ⟨0,2,none⟩=some (zb 111)∧w'.cell? ⟨0,3,none⟩=some (zb 103))) (by kernel_rfl) ?_
  refine zv 0 (.agg ds.toArray) rfl (by kernel_rfl) (by kernel_rfl) (by kernel_rfl) (fun _ _ _ h=>h) (yieldsIf_load_mid (by kernel_rfl) 72 (.tmp 2) rfl w.heap.size 0 rfl ds _ (fun w' hw'=>zj hw'.1.1) Tryz.underlying72 rfl hids) HS.out ?_;go_simp;refine zv 1 (.agg (List.toArray [zb h0,zb h1,zb h2,zb h3])) rfl (by kernel_rfl) (by kernel_rfl) (by kernel_rfl) (fun _ _ _ h=>h) (yieldsIf_load_mid (by kernel_rfl) 136 (.tmp 6) rfl w2.heap.size 0 rfl [zb h0,zb h1,zb h2,zb h3] _ (fun w' hw'=>zj hw'.1.2) Tryz.underlying136 rfl (by kernel_rfl)) HS.out ?_
  go_simp;refine hTk 2 (.agg #[zb 0,zb 0,zb 0,zb 0]) rfl (fun w' hw'=>by obtain⟨_,m0,m1,m2,m3⟩:=hw';go_simp) HS.out ?_;go_simp;have heq:=fun w'=>qW w' 136 4 Tryz.underlying136 (xs:= [h0,h1,h2,h3]) (ys:= [0,0,0,0]) (by rw[←Hmg.out];exact HB.out.take 4) (by intro x hx;simp at hx;omega) rfl rfl;obtain⟨bm,hbm⟩: ∃bm,bm=decide (xs.take 4= [0,0,0,0]):=⟨_,rfl⟩;have hb4:decide ([h0,h1,h2,h3]= [0,0,0,0])=bm:=by rw[hbm,Hmg.out]
  simp only[hb4] at heq;simp only[List.map_cons,List.map_nil] at heq;have Hbm:Hid _:=hbm;clear hb4 hbm;refine hTk 3 (.bool (bm)) rfl (fun w' hw'=>by have h9:=heq w';simp only[execOp,Act.eval];go_simp) HS.out ?_;go_simp;clear heq;refine zg 4 rfl rfl (by kernel_rfl) ?_;refine wp_store_row 72 (.tmp 4) (.tmp 27) rfl rfl (w.heap.size+1) rfl ds Z64 72 rfl HQ4.out (by rw[zD];exact HRl2.out) hids HRo2.out ?_
  intro w9 hb9 hc9;have HS9:Hid ((fun w':World=>(w'.heap[w.heap.size]?=some (.cells ds.toArray 72 (0,0))∧w'.heap[w2.heap.size]?=some (.cells (List.toArray [zb h0,zb h1,zb h2,zb h3]) 136 (0,0)))∧(w'.cell? (zd 0)=some (zb 106)∧w'.cell? ⟨0,1,none⟩=some (zb 108)∧w'.cell? ⟨0,2,none⟩=some (zb 111)∧w'.cell? ⟨0,3,none⟩=some (zb 103))) w9):=⟨⟨(hc9.block w.heap.size (gLt HS.out.1.1) (by omega)).trans HS.out.1.1,(hc9.block w2.heap.size (gLt HS.out.1.2) (by omega)).trans HS.out.1.2⟩,hc9.cell HS.out.2.1 (by omega),hc9.cell HS.out.2.2.1 (by omega),hc9.cell HS.out.2.2.2.1 (by omega),hc9.cell HS.out.2.2.2.2 (by omega)⟩
  have Hb9:Hid _:=hb9;have HC9:Hid _:=HCw4.out.step ((Chg.drew (Chg.refl (w.heap.size+1) (w.heap.size+1+1) w4)).trans hc9) (by omega);refine⟨HS9.out,?_⟩;clear hb9 hc9;go_simp;refine zg 5 rfl rfl (by kernel_rfl) ?_;refine qA (v:= .bool (bm)) (w':=w9) (by first|kernel_rfl|go_simp) ⟨HS9.out,?_⟩;go_simp;refine zt (by kernel_rfl) (NoPanic.normal ?_);go_wp2;have hl1:(loadVar 72 (zd (w.heap.size+1))).run Tryz.prog w9= .ok (.agg ds.toArray) w9:=run_loadVar_mid _ _ _ _ ds _ (zj Hb9.out) Tryz.underlying72 rfl hids
  refine bodyPost_ret (v:= .tuple #[.agg ds.toArray,.bool bm]) (QF Tryz.results151 rfl rfl hl1) rfl ⟨?_,HC9.out⟩;rw[Hdm.out,Hbm.out];rfl
theorem E0 (w:World)(b cap:Nat)(c0 c1 c2 c3:Value)(ty:TypeId)(k0:w.cell? (zd b)=some c0)(k1:w.cell? ⟨b,1,none⟩=some c1)(k2:w.cell? ⟨b,2,none⟩=some c2)(k3:w.cell? ⟨b,3,none⟩=some c3)
  (f0:w.frozen? (zd b)=false) (f1:w.frozen? ⟨b,1,none⟩=false) (f2:w.frozen? ⟨b,2,none⟩=false) (f3:w.frozen? ⟨b,3,none⟩=false):
  (Builtin.clear_ #[22] ty #[.slice (some (zd b)) 4 cap]).run Tryz.prog w= .ok (.tuple #[]) ((((w.setCell (zd b) (zb 0)).setCell ⟨b,1,none⟩ (zb 0)).setCell ⟨b,2,none⟩ (zb 0)).setCell ⟨b,3,none⟩ (zb 0)):=by
 have hz:(Builtin.zeroCells #[Value.int .u8 0] 4).toList= [zb 0,zb 0,zb 0,zb 0]:=by first|kernel_rfl|decide|simp[Builtin.zeroCells]
 have hst:=run_storeCells_cells (P:=Tryz.prog) b 0 [zb 0,zb 0,zb 0,zb 0] 0 w
  (fun j hj=>by
   have:j=0∨j=1∨j=2∨j=3:=by simp at hj;omega
   rcases this with rfl|rfl|rfl|rfl
   ·simp[k0]
   ·simp[k1]
   ·simp[k2]
   ·simp[k3])
  (fun j hj=>by
   have:j=0∨j=1∨j=2∨j=3:=by simp at hj;omega
   rcases this with rfl|rfl|rfl|rfl
   ·simpa using f0
   ·simpa using f1
   ·simpa using f2
   ·simpa using f3)
  (by simp[Value.oneCell'])
 simp only[Nat.add_zero] at hst;simp[Builtin.clear_,go_sem];rw[hz,hst];rfl
def jy (xs:List Int):List Int:=if xs.take 4=mg then [0,0,0,0]++xs.drop 4 else xs
theorem ji {xs:List Int}(h:xs.length=64):(jy xs).length=64:=by
 unfold jy;split
 ·simp[h]
 ·exact h
theorem Tryz.infoH:(Tryz.prog.info? 61).map (fun i=>(i.zero,i.size,i.bytes))=some (some (.agg #[za 0,zc]),2,32):=by kernel_rfl
theorem aaN (z0 z1:Value)(n i:Nat)(h:i<n):(madeCells #[z0,z1] (n*2)).toList[i*2]?=some z0∧(madeCells #[z0,z1] (n*2)).toList[i*2+1]?=some z1:=by
 have h1:i*2<n*2:=by omega
 have h2:i*2+1<n*2:=by omega
 have m1:i*2 % 2=0:=by omega
 have m2:(i*2+1) % 2=1:=by omega
 constructor
 ·simp[madeCells,h1,m1]
 ·simp[madeCells,h2,m2]
structure Tx where
 seq:Int
 homes:List Wr
 revs:List Int
def jI (w:World) (lo hi:Nat) (v:Value) (t:Tx):Prop:= ∃hv rv,v= .agg #[za t.seq,hv,rv]∧qF w lo hi hv t.homes∧zr w lo hi .i64 rv t.revs
theorem jI.chg {w w':World}{lo hi l r:Nat}{v:Value}{t:Tx}(h:jI w lo hi v t)(c:Chg l r w w')(e:hi≤l∨r≤lo∨r≤l):jI w' lo hi v t:=by
 obtain⟨hv,rv,hv',h1,h2⟩:=h;exact⟨hv,rv,hv',h1.chg c e,h2.chg c e⟩
def Z3 (t:Tx):Nat:=cnt t.homes+t.revs.length
theorem tri {w:World}{s:Nat}{a b c:Value}{t:TypeId}(h:w.heap[s]?=some (.cells #[a,b,c] t (0,0))):
  (w.cell? (zd s)=some a∧w.cell? ⟨s,1,none⟩=some b∧w.cell? ⟨s,2,none⟩=some c)∧w.frozen? (zd s)=false∧w.frozen? ⟨s,1,none⟩=false∧w.frozen? ⟨s,2,none⟩=false:=by
 simp[World.cell?,World.frozen?,h]
theorem zr.slice {w:World}{lo hi:Nat}{k:IntKind}{v:Value}{xs:List Int}(h:zr w lo hi k v xs): ∃ao cap,v= .slice ao xs.length cap:=by
 obtain⟨ao,cap,rfl,_⟩:=h;exact⟨ao,cap,rfl⟩
theorem qF.slice {w:World}{lo hi:Nat}{v:Value}{ps:List Wr}(h:qF w lo hi v ps): ∃ao cap,v= .slice ao ps.length cap:=by
 obtain⟨ao,cap,rfl,_⟩:=h;exact⟨ao,cap,rfl⟩
end Go.Proofs.YtacjklochmelfaaGreatDoor
