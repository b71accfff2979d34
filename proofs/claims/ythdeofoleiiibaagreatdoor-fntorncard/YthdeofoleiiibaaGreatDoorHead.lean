import Derived.Test.YthdeofoleiiibaaGreatDoorAs
import Derived.Test.YthdeofoleiiibaaGreatDoorGetI
import Derived.Test.YthdeofoleiiibaaGreatDoorWeak
namespace Go.Proofs.YthdeofoleiiibaaGreatDoor
open Go.RowKit
set_option maxRecDepth 100000
set_option maxHeartbeats 16000000
abbrev mT:= @bodyPost_ret
abbrev nl:= @yieldsIf_load_mid
def Vl (w:World) (b:Nat) (k:Int) (why:Value):Prop:=w.heap[b]?=some (zi #[za k,why] 287)
theorem QZ (w:World)(k:Int)(t:TypeId)(v:Value):
  Calls Tryz.prog 168 #[za k,(.iface t v)] w fun e w'=>e= .returned (.iface 244 (zh w.heap.size))∧Vl w' w.heap.size k (.iface t v)∧zr 0 0 w w':=by
 have a:Hid (Vl (w.alloc (zi #[za k,(.iface t v)] 287)) w.heap.size k (.iface t v)):=zt w _;have b:Hid (zr 0 0 w (w.alloc (zi #[za k,(.iface t v)] 287))):=zr.al w;go_enter Tryz.func168,Tryz.ntmps168;go_wp2;go_ret;exact⟨rfl,a,b⟩
def hd7 (xs:List Int):Array Value:= #[zb (xs.getD 0 0),zb (xs.getD 1 0),zb (xs.getD 2 0),zb (xs.getD 3 0),za (xs.getD 4 0),za (qI ((xs.drop 6).take 2)),za (qI ((xs.drop 8).take 4))]
theorem Xd (w:World)(a b c d k i s:Int):
  Calls Tryz.prog 162 #[.agg #[zb a,zb b,zb c,zb d,za k,za i,za s]] w fun e w'=>e= .returned (.agg #[zb a,zb b,zb c,zb d])∧zr 0 0 w w':=by
 have HC:Hid (zr 0 0 w ((w.alloc (zi #[zb a,zb b,zb c,zb d,za k,za i,za s] 146)).alloc (zi #[zb a,zb b,zb c,zb d] 144))):=(zr.al w).alloc _;go_enter Tryz.func162,Tryz.ntmps162;go_wp2;exact mT (v:= .agg #[zb a,zb b,zb c,zb d]) (by simp[results,Tryz.results162,go_sem]) rfl ⟨rfl,HC.out⟩
theorem EV (w:World)(a:Addr)(cap:Nat):(Instr.arrayAt 144 (zj (some a) 4 cap)).run Tryz.prog w= .ok (.pointer (some a)) w:=by
 first|kernel_rfl|rfl|simp[Instr.arrayAt,go_sem]
theorem fS {w:World}{b:Nat}{cs:List Value}{t:TypeId}(h:w.heap[b]?=some (zi cs.toArray t))(o n:Nat):w.rangeAt b o ((cs.drop o).take n):=by
 intro j v a;rw[oA] at a;split at a
 ·rw[oQ] at a;simp[World.cell?,h,a]
 ·cases a
theorem QL (w:World)(xs:List Int)(T:xs.length=64)(hB:Byt xs):
  Calls Tryz.prog 161 #[.agg (xs.map (Value.int .u8)).toArray] w fun e w'=>e= .returned (.agg (hd7 xs))∧zr 0 0 w w':=by
 obtain⟨cs,l⟩: ∃cs,cs=xs.map (Value.int .u8):=⟨_,rfl⟩;rw[←l];have L1:cs.length=64:=by rw[l];simpa using T
 have aa:Hid (cs.length=64):=L1;have t:Hid (cs=xs.map (Value.int .u8)):=l;have R:Hid (xs.length=64):=T;have J:Hid (Byt xs):=hB;have U:=zt w (zi cs.toArray 78);have Y:zr 0 0 (w.alloc (zi cs.toArray 78)) ((w.alloc (zi cs.toArray 78)).alloc (zi #[zb 0,zb 0,zb 0,zb 0,za 0,za 0,za 0] 146)):=zr.al _;have V:=(Y.bk w.heap.size zn).trans U;have s:Hid (((w.alloc (zi cs.toArray 78)).alloc (zi #[zb 0,zb 0,zb 0,zb 0,za 0,za 0,za 0] 146)).heap[w.heap.size]?=some (zi cs.toArray 78)):=V
 clear L1 l T hB U V Y;go_enter Tryz.func161,Tryz.ntmps161;go_wp2;have s0:((w.alloc (zi cs.toArray 78)).alloc (zi #[zb 0,zb 0,zb 0,zb 0,za 0,za 0,za 0] 146)).heap.size=w.heap.size+1+1:=zn;have HZ:Hid (((w.alloc (zi cs.toArray 78)).alloc (zi #[zb 0,zb 0,zb 0,zb 0,za 0,za 0,za 0] 146)).heap[w.heap.size+1]?=some (zi #[zb 0,zb 0,zb 0,zb 0,za 0,za 0,za 0] 146)):=by
  have:=zt (w.alloc (zi cs.toArray 78)) (zi #[zb 0,zb 0,zb 0,zb 0,za 0,za 0,za 0] 146);show _=_;simpa using this
 have HC:Hid (zr 0 0 w ((w.alloc (zi cs.toArray 78)).alloc (zi #[zb 0,zb 0,zb 0,zb 0,za 0,za 0,za 0] 146))):=(zr.al w).alloc _;generalize (w.alloc (zi cs.toArray 78)).alloc (zi #[zb 0,zb 0,zb 0,zb 0,za 0,za 0,za 0] 146)=A at*;have HS:Hid ((fun w':World=>w'.heap[w.heap.size]?=some (zi cs.toArray 78)) A.drew):=s.out;have ab:=fun w'=>EV w' (zd w.heap.size) 64;have H4:Hid ((cs.drop 0).take 4= [zb (xs.getD 0 0),zb (xs.getD 1 0),zb (xs.getD 2 0),zb (xs.getD 3 0)]):=by
  show _=_;rw[t.out];have:=R.out
  match xs,this with
  |a::b::c::d::r,_=>simp
 have E: ∀w':World,w'.heap[w.heap.size]?=some (zi cs.toArray 78)→w'.cell? ⟨w.heap.size,4,none⟩=some (zb (xs.getD 4 0)):=by
  intro w' j;have:=R.out;simp only[World.cell?,j,rI,t.out,nU,mV];rw[mZ (show 4<xs.length by omega)];rfl
 have N:Hid (∀w':World,w'.heap[w.heap.size]?=some (zi cs.toArray 78)→w'.cell? ⟨w.heap.size,4,none⟩=some (zb (xs.getD 4 0))):=E;have ac:=J.getD 4;clear E;refine wRg 11 (fun w':World=>w'.heap[w.heap.size]?=some (zi cs.toArray 78)) ?_;refine wT2 0 (zg w.heap.size 4 64) rfl ?_;go_simp;refine wT2 1 (zh w.heap.size) rfl ?_;go_simp;refine ZP 2 (.agg ((cs.drop 0).take 4).toArray) rfl zl zl zl zl (fun _ _ _ h=>h) (nl zl 144 (.tmp 4) rfl w.heap.size 0 rfl ((cs.drop 0).take 4) _ (fun w' j=>fS j 0 4) Tryz.underlying144 rfl (by rw[H4.out];kernel_rfl)) HS ?_
 rw[H4.out];go_simp;refine wT2 3 (.pointer (some ⟨w.heap.size,4,none⟩)) rfl ?_;go_simp;generalize H:xs.getD 4 0=n at*;have S:Hid (xs.getD 4 0=n):=H;clear H;refine wTk 4 (zb n) rfl (fun w' j=>by have h4:=N.out w' j;go_simp) HS.out ?_;go_simp;refine wTk 5 (za n) rfl (fun w' j=>by go_simp;rw[mS];omega) HS.out ?_;go_simp;refine wT2 6 (zj (some ⟨w.heap.size,6,none⟩) 2 58) rfl ?_;go_simp;refine wT2 8 (zj (some ⟨w.heap.size,8,none⟩) 4 56) rfl ?_
 go_simp;refine wOn 7 rfl ?_;have i:=R.out;have g:=s.out;rw[t.out] at g;refine zv 150 #[zj (some ⟨w.heap.size,6,none⟩) 2 58] zq (Zd A.drew (J.out.drop 6|>.take 2) (Ug (w:=A.drew) g 6 2 58)) ?_;rintro e z ⟨rfl,m⟩;refine⟨_,rfl,?_⟩;have o:z.heap[w.heap.size]?=some (zi (xs.map (Value.int .u8)).toArray 78):=by rw[m.heap];exact g
 have B:Hid ((fun w':World=>w'.heap[w.heap.size]?=some (zi cs.toArray 78)) z):=by show z.heap[w.heap.size]?=_;rw[m.heap];exact HS.out
 have k:Hid (qj A.drew z):=m;refine⟨fun _=>B.out,?_⟩;have L:Hid (qI ((xs.drop 6).take 2)=qI ((xs.drop 6).take 2)):=rfl;generalize F:qI ((xs.drop 6).take 2)=x at*;clear g m;have g:=o;clear o;have P:Hid (qI ((xs.drop 6).take 2)=x):=F;have M:Hid (z.heap[w.heap.size]?=some (zi (xs.map (Value.int .u8)).toArray 78)):=g;have D:Hid (xs.length=64):=i;clear F L g i;go_simp;refine wOn 9 rfl ?_;have i:=D.out;refine zv 150 #[zj (some ⟨w.heap.size,8,none⟩) 4 56] zq (Zd z (J.out.drop 8|>.take 4) (Ug M.out 8 4 56)) ?_
 rintro e I ⟨rfl,u⟩;refine⟨_,rfl,?_⟩;refine⟨fun _=>by show I.heap[w.heap.size]?=_;rw[u.heap];exact B.out,?_⟩;have f:Hid (qj A I):=qj.trans (qj.trans (qj.drew (qj.refl A)) k) u;generalize G:qI ((xs.drop 8).take 4)=y at*;have Q:Hid (qI ((xs.drop 8).take 4)=y):=G;have s2:I.heap.size=w.heap.size+1+1:=by rw[f.out.heap];exact s0
 have W:I.heap[w.heap.size+1]?=some (zi #[zb 0,zb 0,zb 0,zb 0,za 0,za 0,za 0] 146):=by rw[f.out.heap];exact HZ
 clear G u i;have K:Hid (I.heap[w.heap.size]?=some (zi cs.toArray 78)):=by show _=_;rw[f.out.heap];exact s.out
 go_simp;refine wOn 10 rfl ?_;refine jb (v:= .agg #[zb (xs.getD 0 0),zb (xs.getD 1 0),zb (xs.getD 2 0),zb (xs.getD 3 0),za n,za x,za y]) zq ⟨fun _=>K.out,?_⟩;go_simp;refine wOn 11 rfl ?_;refine wsR [zb (xs.getD 0 0),zb (xs.getD 1 0),zb (xs.getD 2 0),zb (xs.getD 3 0),za n,za x,za y] W ?_;intro q X Z;refine⟨fun h=>absurd rfl h,?_⟩;refine wDn ?_;have e7:hd7 xs= #[zb (xs.getD 0 0),zb (xs.getD 1 0),zb (xs.getD 2 0),zb (xs.getD 3 0),za n,za x,za y]:=by
  unfold hd7;rw[P.out,Q.out,S.out]
 have p:q.cell? (zd (w.heap.size+1))=some (zb (xs.getD 0 0))∧q.cell? ⟨w.heap.size+1,1,none⟩=some (zb (xs.getD 1 0))∧q.cell? ⟨w.heap.size+1,2,none⟩=some (zb (xs.getD 2 0))∧q.cell? ⟨w.heap.size+1,3,none⟩=some (zb (xs.getD 3 0))∧q.cell? ⟨w.heap.size+1,4,none⟩=some (za n)∧q.cell? ⟨w.heap.size+1,5,none⟩=some (za x)∧q.cell? ⟨w.heap.size+1,6,none⟩=some (za y):=by
  simp[World.cell?,X]
 have HCe:Hid (zr 0 0 w q):=(HC.trans (f.chg 0 0)).step Z;have O:Hid (hd7 xs= #[zb (xs.getD 0 0),zb (xs.getD 1 0),zb (xs.getD 2 0),zb (xs.getD 3 0),za n,za x,za y]):=e7;have C:Hid _:=p;clear X Z W e7 p;go_wp2;rw[O.out];obtain⟨r0,r1,r2,r3,r4,r5,r6⟩:=C.out;generalize xs.getD 0 0=x0 at*;generalize xs.getD 1 0=x1 at*;generalize xs.getD 2 0=x2 at*;generalize xs.getD 3 0=x3 at*;exact mT (v:= .agg #[zb x0,zb x1,zb x2,zb x3,za n,za x,za y]) (by simp[results,Tryz.results161,go_sem,r0,r1,r2,r3,r4,r5,r6]) rfl ⟨rfl,HCe.out⟩
end Go.Proofs.YthdeofoleiiibaaGreatDoor
