import Derived.Test.YtacjklochmelfaaGreatDoorCells2
namespace Go.Proofs.YtacjklochmelfaaGreatDoor
def stp (x b:Nat):Nat:=if(x+b) % 2=1 then x/2^^^2197175160 else x/2
def qI:Nat→Nat→Nat→Nat
 |0,x,_=>x
 |k+1,x,v=>qI k (stp x (v % 2)) (v/2)
def reg (x:Nat) (ds:List Nat):Nat:=ds.foldl (fun r d=>qI 8 r d) x
theorem EO (a b:Nat):(a^^^b) % 2=(a+b) % 2:=by
 have h:=Nat.testBit_xor a b 0;simp only[Nat.testBit_zero] at h;rcases Nat.mod_two_eq_zero_or_one (a^^^b) with h1|h1<;>rcases Nat.mod_two_eq_zero_or_one a with h2|h2<;>
  rcases Nat.mod_two_eq_zero_or_one b with h3|h3<;>simp[h1,h2,h3] at h⊢ <;>omega
theorem EM (a b:Nat):(a^^^b)/2=a/2^^^b/2:=by
 exact Nat.xor_div_two
theorem NL (r x:Nat):stp (r^^^x) 0=stp r (x % 2)^^^x/2:=by
 unfold stp;have h1:=EO r x;have h2:=EM r x;have h3:(r+x % 2) % 2=(r+x) % 2:=by omega
 rw[Nat.add_zero,h1,h2,h3];split
 ·rw[Nat.xor_assoc,Nat.xor_assoc,Nat.xor_comm (x/2)]
 ·rfl
theorem ac9 (k : Nat) : ∀ r x : Nat, x < 2 ^ k → qI k r x = qI k (r ^^^ x) 0 := by
  induction k with
  | zero => intro r x hx; simp [qI]; have : x = 0 := by simpa using hx
            simp [this]
  | succ k ih =>
    intro r x hx
    rw [qI, qI, ih _ _ (by rw [Nat.pow_succ] at hx; omega), ← NL]
theorem adb (a b:Nat):stp (a^^^b) 0=stp a 0^^^stp b 0:=by
 unfold stp;have h1:=EO a b;have h2:=EM a b;simp only[Nat.add_zero,h1,h2];by_cases ha:a % 2=1<;>by_cases hb:b % 2=1
 ·rw[if_neg (by omega),if_pos ha,if_pos hb];rw[Nat.xor_assoc,Nat.xor_comm 2197175160,Nat.xor_assoc,Nat.xor_self,Nat.xor_zero]
 ·rw[if_pos (by omega),if_pos ha,if_neg hb,Nat.xor_assoc,Nat.xor_assoc,Nat.xor_comm (b/2)]
 ·rw[if_pos (by omega),if_neg ha,if_pos hb,Nat.xor_assoc]
 ·rw[if_neg (by omega),if_neg ha,if_neg hb]
theorem acq (k:Nat): ∀a b:Nat,qI k (a^^^b) 0=qI k a 0^^^qI k b 0:=by
 induction k with
 |zero=>intro a b;rfl
 |succ k ih=>intro a b;simp only[qI];rw[adb,ih]
theorem Nu (k:Nat): ∀h:Nat,qI k (h*2^k) 0=h:=by
 induction k with
 |zero=>intro h;simp[qI]
 |succ k ih=>
  intro h;have e:stp (h*2^ (k+1)) (0 % 2)=h*2^k:=by
   have e2:h*2^ (k+1)=2*(h*2^k):=by
    rw[Nat.pow_succ,Nat.mul_comm (2^k) 2,←Nat.mul_assoc,Nat.mul_comm h 2,Nat.mul_assoc]
   unfold stp;rw[e2,if_neg (by omega)];omega
  rw[qI,e];exact ih h
theorem KL (r x:Nat)(hx:x<256):qI 8 r x=r/256^^^qI 8 (r % 256^^^x) 0:=by
 rw[ac9 8 r x (by simpa using hx)];have e:r=r/256*2^8^^^r % 256:=by
  have h:r/256*2^8|||r % 256=r:=by
   rw[Nat.mul_comm,←Nat.two_pow_add_eq_or_of_lt (by omega)];omega
  have h2:r/256*2^8^^^r % 256=r/256*2^8|||r % 256:=by
   apply Nat.eq_of_testBit_eq;intro i;rw[Nat.testBit_xor,Nat.testBit_or];by_cases hi:i<8
   ·have:(r/256*2^8).testBit i=false:=by
     rw[Nat.testBit_mul_two_pow];simp;omega
    simp[this]
   ·have:(r % 256).testBit i=false:=by
     apply Nat.testBit_lt_two_pow;have:2^8≤2^i:=Nat.pow_le_pow_right (by omega) (by omega);omega
    simp[this]
  rw[h2,h]
 conv=>lhs;rw[e,Nat.xor_assoc,acq,Nu]
theorem adR (x b:Nat)(hx:x<4294967296):stp x b<4294967296:=by
 unfold stp;split
 ·exact Nat.xor_lt_two_pow (n:=32) (by omega) (by omega)
 ·omega
theorem Xt (k:Nat): ∀x v:Nat,x<4294967296→qI k x v<4294967296:=by
 induction k with
 |zero=>intro x v hx;exact hx
 |succ k ih=>intro x v hx;rw[qI];exact ih _ _ (adR _ _ hx)
theorem Je (ds:List Nat): ∀x:Nat,x<4294967296→reg x ds<4294967296:=by
 induction ds with
 |nil=>intro x hx;exact hx
 |cons d ds ih=>intro x hx;exact ih _ (Xt 8 _ _ hx)
theorem Nv (x:Nat)(ys zs:List Nat):reg x (ys++zs)=reg (reg x ys) zs:=by
 simp[reg,List.foldl_append]
def YQ (x:Nat) (β:Nat→Nat):Nat→Nat
 |0=>x
 |n+1=>stp (YQ x β n) (β n)
theorem Nt (x:Nat)(β γ:Nat→Nat)(n:Nat)(h: ∀i,i<n→β i=γ i):YQ x β n=YQ x γ n:=by
 induction n with
 |zero=>rfl
 |succ n ih=>rw[YQ,YQ,ih (fun i hi=>h i (by omega)),h n (by omega)]
theorem aco (x:Nat)(β:Nat→Nat)(m n:Nat):YQ x β (m+n)=YQ (YQ x β m) (fun i=>β (m+i)) n:=by
 induction n with
 |zero=>rfl
 |succ n ih=>rw[←Nat.add_assoc,YQ,YQ,ih]
theorem V6 (k:Nat): ∀x v:Nat,qI k x v=YQ x (fun i=>v/2^i % 2) k:=by
 induction k with
 |zero=>intro x v;rfl
 |succ k ih=>
  intro x v;rw[qI,ih,Nat.add_comm k 1,aco];simp only[YQ,Nat.pow_zero,Nat.div_one];apply Nt;intro i _;rw[Nat.div_div_eq_div_mul,Nat.pow_add,Nat.pow_one]
theorem acp (k:Nat): ∀x:Nat,qI (k+1) x 0=stp (qI k x 0) 0:=by
 induction k with
 |zero=>intro x;rfl
 |succ k ih=>intro x;rw[qI,ih];rfl
end Go.Proofs.YtacjklochmelfaaGreatDoor
