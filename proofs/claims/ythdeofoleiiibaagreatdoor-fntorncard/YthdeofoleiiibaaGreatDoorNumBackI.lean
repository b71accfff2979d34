import Derived.Test.YthdeofoleiiibaaGreatDoorPutByt
namespace Go.Proofs.YthdeofoleiiibaaGreatDoor
theorem fh (r:List Int): ∀a:Int,r.foldl (fun v x=>v*256+x) a=a*256^r.length+num r:=by
 induction r with
 |nil=>intro a;simp[num]
 |cons x r ih=>
  intro a;have h1:=ih (a*256+x);have h2:=ih (0*256+x);have e:num (x::r)=r.foldl (fun v x=>v*256+x) (0*256+x):=rfl;rw[rN,h1,e,h2,m7,rW,Int.add_mul,Int.zero_mul,Int.zero_add,Int.mul_comm (256^r.length) 256,←Int.mul_assoc,Int.add_assoc]
theorem iC (x:Int)(r:List Int):num (x::r)=x*256^r.length+num r:=by
 have:=fh r x;rw[←this];unfold num;rw[rN,Int.zero_mul,Int.zero_add]
theorem iD (v:Int)(n:Nat):num (ZZ v n)=v % 256^n:=by
 induction n with
 |zero=>simp[ZZ,num]
 |succ n ih=>
  rw[ZZ,iC,qX,ih];have h1:=sJ v (256^n);have h2:=sJ (v/256^n) 256;have h3:=sJ v (256^ (n+1));rw[VD] at h3;have e:(256:Int)^ (n+1)=256^n*256:=rW ..;rw[e] at h3⊢;rw[Int.mul_assoc] at h3;have a:(256:Int)^n*(256*(v/256^n/256)+v/256^n % 256)=256^n*(v/256^n):=by rw[h2]
  rw[Int.mul_add] at a;rw[Int.mul_comm (v/256^n % 256)];omega
theorem jc (v n:Int)(g:v≤9223372036854775807)(h:zx v n≠ []):qI (zx v n)=v:=by
 unfold zx at h⊢;split at h
 ·exact absurd rfl h
 rename_i h1;split at h
 ·exact absurd rfl h
 rename_i h2;rw[mN h1,mN h2];obtain⟨m,c⟩: ∃m:Nat,n.toNat=m:=⟨_,rfl⟩;rw[c] at h2⊢;have d:1≤m∧m≤8:=zk;have f:v/256^m=0:=by have:=Qo (v:=v) zk m;omega
 have a:v % 256^m=v:=by
  have:=sJ v (256^m);rw[f] at this;simpa using this
 unfold qI;rw[qX,iD,a,mN];rintro(h3|h3|⟨h3,b⟩)
 ·omega
 ·omega
 ·subst h3;have e:(ZZ v 8).getD 0 0=v/256^7 % 256:=rfl;rw[e] at b;have:v/256^7<128:=Int.ediv_lt_of_lt_mul zp zk;have:=Qo (v:=v) zk 7;omega
end Go.Proofs.YthdeofoleiiibaaGreatDoor
