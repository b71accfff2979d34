import Derived.Test.YthdeofoleiiibaaGreatDoorRowZ
namespace Go.Proofs.YthdeofoleiiibaaGreatDoor
abbrev pX:= @Nat.xor_assoc
abbrev sH:= @Nat.mod_two_eq_zero_or_one
abbrev sI:= @Nat.xor_lt_two_pow
def stp (x b:Nat):Nat:=if(x+b) % 2=1 then x/2^^^2197175160 else x/2
def jm:Nat→Nat→Nat→Nat
 |0,x,_=>x
 |k+1,x,v=>jm k (stp x (v % 2)) (v/2)
def reg (x:Nat) (ds:List Nat):Nat:=ds.foldl (fun r d=>jm 8 r d) x
theorem aY (a b:Nat):(a^^^b) % 2=(a+b) % 2:=by
 have h:=Nat.testBit_xor a b 0;simp only[Nat.testBit_zero] at h;rcases sH (a^^^b) with h1|h1<;>rcases sH a with h2|h2<;>
  rcases sH b with h3|h3<;>simp[h1,h2,h3] at h⊢ <;>omega
theorem aW (a b:Nat):(a^^^b)/2=a/2^^^b/2:=by
 exact Nat.xor_div_two
theorem de (r x:Nat):stp (r^^^x) 0=stp r (x % 2)^^^x/2:=by
 unfold stp;have h1:=aY r x;have h2:=aW r x;have h3:(r+x % 2) % 2=(r+x) % 2:=zk;rw[oF,h1,h2,h3];split
 ·rw[pX,pX,Nat.xor_comm (x/2)]
 ·rfl
theorem ls (k : Nat) : ∀ r x : Nat, x < 2 ^ k → jm k r x = jm k (r ^^^ x) 0 := by
  induction k with
  | zero => intro r x a; simp [jm]; have : x = 0 := by simpa using a
            simp [this]
  | succ k ih =>
    intro r x a
    rw [jm, jm, ih _ _ (by rw [rY] at a; omega), ← de]
theorem lz (a b:Nat):stp (a^^^b) 0=stp a 0^^^stp b 0:=by
 unfold stp;have h1:=aY a b;have h2:=aW a b;simp only[oF,h1,h2];by_cases c:a % 2=1<;>by_cases d:b % 2=1
 ·rw[mN zk,mM c,mM d];rw[pX,Nat.xor_comm 2197175160,pX,Nat.xor_self,Nat.xor_zero]
 ·rw[mM zk,mM c,mN d,pX,pX,Nat.xor_comm (b/2)]
 ·rw[mM zk,mN c,mM d,pX]
 ·rw[mN zk,mN c,mN d]
theorem iV (k:Nat): ∀a b:Nat,jm k (a^^^b) 0=jm k a 0^^^jm k b 0:=by
 induction k with
 |zero=>intro a b;rfl
 |succ k ih=>intro a b;simp only[jm];rw[lz,ih]
theorem co (k:Nat): ∀h:Nat,jm k (h*2^k) 0=h:=by
 induction k with
 |zero=>intro h;simp[jm]
 |succ k ih=>
  intro h;have e:stp (h*2^ (k+1)) (0 % 2)=h*2^k:=by
   have a:h*2^ (k+1)=2*(h*2^k):=by
    rw[rY,ry (2^k) 2,←Nat.mul_assoc,ry h 2,Nat.mul_assoc]
   unfold stp;rw[a,mN zk];omega
  rw[jm,e];exact ih h
theorem Ua (r x:Nat)(a:x<256:=by omega):jm 8 r x=r/256^^^jm 8 (r % 256^^^x) 0:=by
 rw[ls 8 r x (by simpa using a)];have e:r=r/256*2^8^^^r % 256:=by
  have h:r/256*2^8|||r % 256=r:=by
   rw[ry,←Nat.two_pow_add_eq_or_of_lt zk];omega
  have h2:r/256*2^8^^^r % 256=r/256*2^8|||r % 256:=by
   apply Nat.eq_of_testBit_eq;intro i;rw[Nat.testBit_xor,Nat.testBit_or];by_cases hi:i<8
   ·have:(r/256*2^8).testBit i=false:=by
     rw[Nat.testBit_mul_two_pow];simp;omega
    simp[this]
   ·have:(r % 256).testBit i=false:=by
     apply Nat.testBit_lt_two_pow;have:2^8≤2^i:=Nat.pow_le_pow_right zk zk;omega
    simp[this]
  rw[h2,h]
 conv=>lhs;rw[e,pX,iV,co]
theorem mm (x b:Nat)(a:x<4294967296):stp x b<4294967296:=by
 unfold stp;split
 ·exact sI (n:=32) zk zk
 ·omega
theorem YH (k:Nat): ∀x v:Nat,x<4294967296→jm k x v<4294967296:=by
 induction k with
 |zero=>intro x v a;exact a
 |succ k ih=>intro x v a;rw[jm];exact ih _ _ (mm _ _ a)
theorem Xg (a:List Nat): ∀x:Nat,x<4294967296→reg x a<4294967296:=by
 induction a with
 |nil=>intro x b;exact b
 |cons d a ih=>intro x b;exact ih _ (YH 8 _ _ b)
theorem cE (x:Nat)(ys a:List Nat):reg x (ys++a)=reg (reg x ys) a:=by
 simp[reg]
def Vd (x:Nat) (β:Nat→Nat):Nat→Nat
 |0=>x
 |n+1=>stp (Vd x β n) (β n)
theorem ck (x:Nat)(β γ:Nat→Nat)(n:Nat)(h: ∀i,i<n→β i=γ i):Vd x β n=Vd x γ n:=by
 induction n with
 |zero=>rfl
 |succ n ih=>rw[Vd,Vd,ih (fun i hi=>h i zk),h n zk]
theorem iT (x:Nat)(β:Nat→Nat)(m n:Nat):Vd x β (m+n)=Vd (Vd x β m) (fun i=>β (m+i)) n:=by
 induction n with
 |zero=>rfl
 |succ n ih=>rw[←pm,Vd,Vd,ih]
theorem ED (k:Nat): ∀x v:Nat,jm k x v=Vd x (fun i=>v/2^i % 2) k:=by
 induction k with
 |zero=>intro x v;rfl
 |succ k ih=>
  intro x v;rw[jm,ih,ru k 1,iT];simp only[Vd,Nat.pow_zero,Nat.div_one];apply ck;intro i _;rw[tp,Nat.pow_add,Nat.pow_one]
theorem iU (k:Nat): ∀x:Nat,jm (k+1) x 0=stp (jm k x 0) 0:=by
 induction k with
 |zero=>intro x;rfl
 |succ k ih=>intro x;rw[jm,ih];rfl
end Go.Proofs.YthdeofoleiiibaaGreatDoor
