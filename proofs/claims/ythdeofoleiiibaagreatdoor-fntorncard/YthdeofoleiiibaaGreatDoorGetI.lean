import Derived.Test.YthdeofoleiiibaaGreatDoorRowZ
import Derived.Laws.BitsAllLaws
namespace Go.Proofs.YthdeofoleiiibaaGreatDoor
open Go.RowKit
set_option maxRecDepth 100000
set_option maxHeartbeats 16000000
variable {xs:List Int}
abbrev oX:= @beq_eq_false_iff_ne
def num (xs:List Int):Int:=xs.foldl (fun v x=>v*256+x) 0
theorem Qk (xs:List Int)(k:Nat)(h:k<xs.length):num (xs.take (k+1))=num (xs.take k)*256+xs.getD k 0:=by
 unfold num;rw[oy h,List.foldl_append];simp[h]
theorem Ew (h:Byt xs)(m:Nat)(b:xs.getD 0 0≤m): ∀k,k<xs.length→0≤num (xs.take (k+1))∧num (xs.take (k+1))<(m+1)*256^k:=by
 intro k
 induction k with
 |zero=>
  intro a;rw[Qk xs 0 a];have:=h.getD 0;simp only[oI,num,List.foldl_nil,Int.pow_zero];omega
 |succ k ih=>
  intro a;have h1:=ih zk;rw[Qk xs (k+1) a];have:=h.getD (k+1);have e:((m:Int)+1)*256^ (k+1)=((m+1)*256^k)*256:=by rw[rW,Int.mul_assoc]
  rw[e];omega
theorem dU {k n:Nat}(h:k≤n:=by omega):(256:Int)^k≤256^n:=by
 induction n with
 |zero=>rw[Nat.le_zero.1 h];exact pd _
 |succ n ih=>
  rcases ri k (n+1) with h'|h'
  ·have h1:=ih zk;have h2:(0:Int)≤256^n:=sE (Int.pow_pos zp);rw[rW];omega
  ·rw[Nat.le_antisymm h h'];exact pd _
theorem iE (h:Byt xs)(e:xs.length≤8)(c:xs.length=8→xs.getD 0 0≤127)(k:Nat)(d:k≤xs.length):0≤num (xs.take k)∧num (xs.take k)<9223372036854775808∧(k<xs.length→num (xs.take k)<36028797018963968):=by
 cases k with
 |zero=>simp[num]
 |succ k=>
  by_cases b:xs.length=8
  ·have h1:=Ew h 127 (c b) k zk;have a:(256:Int)^k≤72057594037927936:=dU (n:=7);refine⟨h1.1,zk,fun h2=>?_⟩;have a:(256:Int)^k≤281474976710656:=dU (n:=6);omega
  ·have h1:=Ew h 255 (by have:=h.getD 0;omega) k zk;have a:(256:Int)^k≤281474976710656:=dU (n:=6);refine⟨h1.1,zk,fun h2=>?_⟩;have a:(256:Int)^k≤1099511627776:=dU (n:=5);omega
theorem mi (u x:Int)(h1:0≤u:=by omega)(h2:u<36028797018963968:=by omega)(h3:0≤x:=by omega)(a:x<256:=by omega):bits .or .u64 (u*256) x=u*256+x:=by
 rw[u64_or _ _ zk zk h3 zk,nat_join 8 _ _ zk zk];omega
def qI (xs:List Int):Int:=if xs.length=0∨8<xs.length∨(xs.length=8∧127<xs.getD 0 0) then-1 else num xs
theorem Nc (w:World)(xs:List Int)(b g cap:Nat)(h:Byt xs)
  (I:xs.length≤9223372036854775807)
  (h1: ∀i,i<xs.length→w.cell? ⟨b,g+i,none⟩=some (zb (xs.getD i 0))):
  Calls Tryz.prog 150 #[zj (some ⟨b,g,none⟩) xs.length cap] w fun e w'=>e= .returned (za (qI xs))∧qj w w':=by
 by_cases y:xs.length=0
 ·have d:qI xs= -1:=by unfold qI;rw[mM zk]
  have hi:((xs.length:Int)==0)=true:=by rw[y];rfl
  rw[d];go_enter Tryz.func150,Tryz.ntmps150;go_wp2
  all_goals go_ret
  all_goals exact⟨rfl,qj.refl _⟩
 by_cases H:8<xs.length
 ·have d:qI xs= -1:=by unfold qI;rw[mM zk]
  have hi:((xs.length:Int)==0)=false:=by simp only[oX,ne_eq];omega
  have r:(xs.length:Int)>8:=zk;rw[d];go_enter Tryz.func150,Tryz.ntmps150;go_wp2
  all_goals go_ret
  all_goals exact⟨rfl,qj.refl _⟩
 have z:((xs.length:Int)==0)=false:=by simp only[oX,ne_eq];omega
 have q: ¬(xs.length:Int)>8:=zk;have j:=h1 0 zk;have D:=h.getD 0;by_cases h8:xs.length=8∧127<xs.getD 0 0
 ·have d:qI xs= -1:=by unfold qI;rw[mM zk]
  rw[d];obtain⟨h8,a⟩:=h8;rw[oF] at j;generalize xs.getD 0 0=B at*;clear h1;rw[h8];go_enter Tryz.func150,Tryz.ntmps150;go_wp2
  all_goals go_ret
  all_goals exact⟨rfl,qj.refl _⟩
 have d:qI xs=num xs:=by unfold qI;rw[mN zk]
 have a:xs.length=8→xs.getD 0 0≤127:=zk;rw[d];have f:=iE h zk a;rw[oF] at j;have o:Hid (∀i,i<xs.length→w.cell? ⟨b,g+i,none⟩=some (zb (xs.getD i 0))):=h1;have n:Hid (Byt xs):=h;have C:Hid (¬(xs.length=8∧127<xs.getD 0 0)):=h8;clear d h1 h h8;have s:(((xs.length:Int)==8)=true∧ ¬xs.getD 0 0≥128)∨((xs.length:Int)==8)=false:=by
  by_cases e:xs.length=8
  ·left;have:=a e;exact⟨by rw[e];rfl,zk⟩
  ·right;simp;omega
 clear a;generalize xs.getD 0 0=B at*;rcases s with⟨h8,t⟩|h8
 all_goals
  go_enter Tryz.func150,Tryz.ntmps150
  go_wp2
  go_loop [3,25] (fun v i=> ∃k:Nat,k≤xs.length∧i=za k∧v= .int .u64 (num (xs.take k))) (fun _ i=>xs.length-(intOf i).toNat)
  case atStart=>exact⟨0,mX _,rfl,rfl⟩
  case round=>
   obtain⟨k,l,rfl,rfl⟩:=hrel;by_cases c:k<xs.length
   ·have G:=o.out k c;have e:=Qk xs k c;have p:=f k l;have E:=f (k+1) c;have F:=n.getD k;have hi:(k:Int)<(xs.length:Int):=zk;generalize xs.getD k 0=x at*;generalize num (xs.take k)=u at*;generalize m:num (xs.take (k+1))=A at*;have HU:Hid (num (xs.take (k+1))=A):=m;clear m;go_wp2;go_round
    case rel=>exact⟨k+1,zk,by go_num,by rw[HU.out,mi u x,e]⟩
    case measure=>simp[intOf];omega
   ·obtain rfl:k=xs.length:=zk;have p:=f xs.length l;rw[nV] at*;go_wp2;go_ret;exact⟨rfl,qj.refl _⟩
theorem Nb (w:World)(a:Option Addr)(cap:Nat):
  Calls Tryz.prog 150 #[zj a 0 cap] w fun e w'=>e= .returned (za (-1))∧qj w w':=by
 go_enter Tryz.func150,Tryz.ntmps150;go_wp2;go_ret;exact⟨rfl,qj.refl _⟩
theorem Zd (w:World){lo hi:Nat}{a:Value}(d:Byt xs)(h1:zC w lo hi .u8 a xs):
  Calls Tryz.prog 150 #[a] w fun e w'=>e= .returned (za (qI xs))∧qj w w':=by
 obtain⟨c,cap,rfl,f,_,h1⟩:=h1;rcases h1 with rfl|⟨x,b,rfl,_,_,h1⟩
 ·exact Nb w c cap
 ·exact Nc w xs x b cap d f h1
end Go.Proofs.YthdeofoleiiibaaGreatDoor
