import Derived.Test.YtacjklochmelfaaGreatDoorRows
import Derived.Test.YtacjklochmelfaaGreatDoorCells2
import Derived.ProofKit
import Derived.OpenShut
import Derived.Carry
import Derived.ChangeOld
import Derived.Below
import Derived.Test.YtacjklochmelfaaGreatDoorLawLogged
import Derived.Test.YtacjklochmelfaaGreatDoorLaidG
import Derived.HandedShaped
namespace Go.Proofs.YtacjklochmelfaaGreatDoor
open Go.ChangeShapes Go.WideShapes Go.ChangeAt Go.RowKit
set_option maxRecDepth 100000
set_option maxHeartbeats 16000000
theorem own:ownKnob Tryz.prog.godebug=none:=by kernel_rfl
theorem laidOut:laidOutB Tryz.prog=true:=by kernel_rfl
theorem QO {H:Type}{enc:TypeId×Value→H}{W:World}{fuel t e:Nat}{k:IntKind}{v:Value}{x:DataW H×List MemPlace}(ht:Tryz.prog.underlying t=some (.slice e))(he:Tryz.prog.underlying e=some (.int k))(hc:Tryz.prog.cellsOf e=1)
  (h:DataW.trod enc Tryz.prog W 0 (fun _=>true) true fuel t [v]=some x): ∃xs,zr W 0 W.heap.size k v xs∧ ∀x∈xs,(Lit.int k x).wf=true:=by
 rcases open_ints ht he hc h with⟨hcs,_⟩|⟨a,len,cap,zs,hcs,_,hl,hm,hz,_,hcell,hwf⟩
 ·simp at hcs;subst hcs;exact⟨[],zr.nil _ _ _ _,by simp⟩
 ·simp at hcs hz;subst hcs;unfold maxLen at hm;refine⟨zs.take len,⟨some a,cap,by rw[List.length_take,Nat.min_eq_left (by omega)],by rw[List.length_take];omega,⟨by rw[List.length_take];omega,by simp⟩,?_⟩,fun x hx=>hwf x (List.mem_of_mem_take hx)⟩;by_cases h0:len=0
  ·left;subst h0;rfl
  ·right;obtain⟨b,off,rfl,hc2⟩:=ints_at hcell (by omega);refine⟨b,off,rfl,Nat.zero_le _,zF (hc2 0 (by omega)),fun i hi=>?_⟩;rw[List.length_take] at hi;rw[hc2 i (by omega)];simp only[List.getD_eq_getElem?_getD,List.getElem?_take];rw[if_pos (by omega)]
theorem Q4 {H:Type}{enc:TypeId×Value→H}{a:Assume}{C:Checked}{os:Os}{f:FuncId}{fn:Func}{s:ChangeSpec}{conds:List PathCond}{apart fresh handsOn again:Bool}{X:World→Array Value→Prop}
  (hX: ∀(w w':World) (args:Array Value),w.heap=w'.heap→X w args→X w' args)
  (own:ownKnob C.prog.godebug=none) (started:os.Started) (noInit:C.prog.inits.idxOf? f=none) (hfn:C.prog.funcs[f]?=some fn)
  (witness: ∃(w:World) (tape:Tape) (i:Input),w.os=os∧(w.forCall tape i).Shaped C.prog∧i.vars= []∧Input.okWide C.prog (w.forCall tape i) .any w.heap.size f i∧
   ((s.pre enc C.prog fn conds apart (w.forCall tape i).memory i.args∧X (w.forCall tape i).memory i.args)∧sizedMet enc C.prog fn (OpenSpec.ofChange s) apart (w.forCall tape i).memory i.args)∧a.holds C.prog (lone (Frame.enter C.prog f i.args .normal) [] (w.forCall tape i)))
  (contract: ∀(W:World) (base:Nat) (args:Array Value) (ds gs:List (DataW H)) (before:List MemPlace),
   (∀(j:Nat) t v,fn.params[j]?=some t→args[j]?=some v→Value.okWide C.prog W .any base t v)→DataW.Whole enc C.prog fn.params.toList s.vars apart W args.toList ds gs before→X W args→W.ShapedOpen C.prog→
   Calls C.prog f args W fun e W'=> ∃v,e= .returned v∧s.post enc C.prog fn apart fresh handsOn again W args v W'):
  ReturnsInHanded a C os f .any (fun w args=>(s.pre enc C.prog fn conds apart w args∧X w args)∧sizedMet enc C.prog fn (OpenSpec.ofChange s) apart w args) (s.post enc C.prog fn apart fresh handsOn again):=by
 refine returnsInHanded_of_calls own started noInit witness fun w tape i _ hsh _ hok hpre _=>?_;obtain⟨_,_,_,fn',hfn',_,_,_,_,hval⟩:=hok;obtain rfl:fn'=fn:=Option.some.inj (hfn'.symm.trans hfn);obtain⟨⟨⟨ds,gs,before,hw,_⟩,hx⟩,_⟩:=hpre;refine(contract (w.forCall tape i) w.heap.size i.args ds gs before hval (DataW.Whole.of_heap (w':=w.forCall tape i) (by rfl) hw) (hX _ _ _ (by rfl) hx) hsh).mono fun e W' ⟨v,he,hp⟩=>?_
 subst he;exact ChangeSpec.post_blind hp
abbrev lk:List (String×DataW Unit):=Rows.fnLoggedRow.laid
theorem acv {W:World}(h:laidMetH Tryz.prog lk W):(∃vL vM vK,jl W 287 287 287 vL vM vK)∧Zg W∧Mag W:=by
 have h':laidMet Tryz.prog [("loop.example/s01525/impl.errLength",Rows.laid_loop_example_s01525_impl_errLength),("loop.example/s01525/impl.errMagic",Rows.laid_loop_example_s01525_impl_errMagic),("loop.example/s01525/impl.errKind",Rows.laid_loop_example_s01525_impl_errKind),("loop.example/s01525/impl.errField",Rows.laid_loop_example_s01525_impl_errField),("loop.example/s01525/impl.errBytes",Rows.laid_loop_example_s01525_impl_errBytes),("loop.example/s01525/impl.journalMagic",Rows.laid_loop_example_s01525_impl_journalMagic)] W∧handlesMet Tryz.prog [("errors.errorType",Rows.laid_errors_errorType)] W:=h
 obtain⟨hl,hh⟩:=h';obtain⟨a0,c0⟩:=QI (g:=4) hl (by kernel_rfl) (by kernel_rfl);obtain⟨a1,c1⟩:=QI (g:=5) hl.tail (by kernel_rfl) (by kernel_rfl);obtain⟨a2,c2⟩:=QI (g:=1) hl.tail.tail (by kernel_rfl) (by kernel_rfl);obtain⟨m0,m1,m2,m3⟩:=Vo hl.tail.tail.tail.tail.tail;exact⟨⟨_,_,_,⟨c0,c1,c2,m0,m1,m2,m3⟩⟩,YI hh (List.mem_singleton.2 rfl),⟨m0,m1,m2,m3⟩⟩
theorem XI {W:World}(h:W.ShapedOpen Tryz.prog):8≤W.heap.size:=by
 obtain⟨o,_,hh,_⟩:=h.2 8 (of_decide_eq_true (by kernel_rfl)) (of_decide_eq_true (by kernel_rfl));have:=(gLt hh);omega
def low (p:Program):Nat:=(World.holding p default ⟨#[],#[],[]⟩).heap.size
def VU (p:Program) (os:Os):World:=
 let w0:=World.holding p os ⟨#[.cells #[.string {data:= #[110,111,116,32,97,115,32,108,111,110,103,32,97,115,32,97,32,98,108,111,99,107]}] 309,.cells #[.string {data:= #[100,111,101,115,32,110,111,116,32,98,101,103,105,110,32,119,105,116,104,32,116,104,101,32,109,97,103,105,99]}] 309,.cells #[.string {data:= #[111,102,32,110,111,32,107,105,110,100,44,32,111,114,32,111,102,32,97,110,111,116,104,101,114,32,111,110,101]}] 309,.cells #[.string {data:= #[97,32,102,105,101,108,100,32,105,115,32,111,117,116,32,111,102,32,105,116,115,32,98,111,117,110,100,115]}] 309,.cells #[.string {data:= #[110,111,116,32,116,104,101,32,98,121,116,101,115,32,116,104,97,116,32,116,101,108,108,32,119,104,97,116,32,105,116,32,116,101,108,108,115]}] 309],#[],[]⟩
 {w0 with heap:=((((((w0.heap.modify 4 fun
   | .cells _ t frozen=> .cells #[.iface 287 (.pointer (some ⟨low p+0,0,none⟩))] t frozen
   |o=>o).modify 5 fun
   | .cells _ t frozen=> .cells #[.iface 287 (.pointer (some ⟨low p+1,0,none⟩))] t frozen
   |o=>o).modify 1 fun
   | .cells _ t frozen=> .cells #[.iface 287 (.pointer (some ⟨low p+2,0,none⟩))] t frozen
   |o=>o).modify 6 fun
   | .cells _ t frozen=> .cells #[.iface 287 (.pointer (some ⟨low p+3,0,none⟩))] t frozen
   |o=>o).modify 2 fun
   | .cells _ t frozen=> .cells #[.iface 287 (.pointer (some ⟨low p+4,0,none⟩))] t frozen
   |o=>o).modify 0 fun
   | .cells _ t frozen=> .cells #[.int .u8 106,.int .u8 108,.int .u8 111,.int .u8 103] t frozen
   |o=>o).modify 3 fun
   | .cells _ t frozen=> .cells #[.iface 266 (.agg #[.pointer (some ⟨8,201,none⟩)])] t frozen
   |o=>o}
theorem Vl (os:Os)(args:Array Value):laidMetH Tryz.prog lk ((VU Tryz.prog os).forCall (fun _ _=>0) ⟨#[],args,[]⟩).memory:=
 laidMetH_of_parts (laidMet_of_run (ps:= [.cell 4 0,.cell (low Tryz.prog+0) 0,.cell 5 0,.cell (low Tryz.prog+1) 0,.cell 1 0,.cell (low Tryz.prog+2) 0,.cell 6 0,.cell (low Tryz.prog+3) 0,.cell 2 0,.cell (low Tryz.prog+4) 0,.cell 0 0,.cell 0 1,.cell 0 2,.cell 0 3]) 8 (by kernel_rfl) (by kernel_rfl) (by kernel_rfl)) (by kernel_rfl)
theorem QR (os:Os)(started:os.Started)(H:Type)(enc:TypeId×Value→H):
  ReturnsInHanded {} Tryz.checked os 3 .any (fun w args=>(Rows.fnLoggedSpec.pre enc Tryz.prog Tryz.f3 [] false w args∧laidMetH Tryz.prog lk w)∧sizedMet enc Tryz.prog Tryz.f3 (OpenSpec.ofChange Rows.fnLoggedSpec) false w args)
   (Rows.fnLoggedSpec.post enc Tryz.prog Tryz.f3 false true false false):=by
 refine Q4 (C:=Tryz.checked) (X:=fun w _=>laidMetH Tryz.prog lk w) (fun _ _ _ hh h=>h.of_heap hh) own started (by kernel_rfl) Tryz.func3
  (ChangeSpec.witness_at (enc:=enc) (C:=Tryz.checked) (os:=os) (X:=fun w _=>laidMetH Tryz.prog lk w) false (VU Tryz.prog os) #[.slice none 0 0,.slice none 0 0] 8 rfl (by kernel_rfl) (by kernel_rfl) (by kernel_rfl) (by kernel_rfl) (by kernel_rfl) (Vl os _)) ?_
 intro W base args ds gs before hval0 hW hL hsh;have hval: ∀(j:Nat) t v,Tryz.f3.params[j]?=some t→args[j]?=some v→Value.okWide Tryz.prog W .any base t v:=hval0;have hW':=hW;obtain⟨p,q,hA0,hV0,rfl,hfz,hnd⟩:=hW;have hA:DataW.TrodAll enc Tryz.prog W 0 (fun _=>true) true Tryz.f3.params.toList args.toList ds p:=hA0;rw[Tryz.params3] at hA hval;obtain⟨v0,vs0,d0,ds0,p0,q0,hargs,rfl,rfl,h0,r0⟩:=trodAll_cons hA
 obtain⟨v1,vs1,d1,ds1,p1,q1,rfl,rfl,rfl,h1,r1⟩:=trodAll_cons r0;obtain⟨rfl,rfl,rfl⟩:=trodAll_nil r1;obtain rfl:args= #[v0,v1]:=by cases args;simp_all
 have k0:=h0;have k1:=h1;have lt0: ∀x∈p0,x.block<W.heap.size:=by obtain⟨m,hm⟩:=k0;exact DataW.trod_lt m _ _ _ hm
 have lt1: ∀x∈p1,x.block<W.heap.size:=by obtain⟨m,hm⟩:=k1;exact DataW.trod_lt m _ _ _ hm
 obtain⟨ka,kl,kcp,rfl⟩:=okWide_slice Tryz.underlying22 (hval 0 22 v0 rfl rfl);obtain⟨ka',kl',kcp',rfl⟩:=okWide_slice Tryz.underlying22 (hval 1 22 v1 rfl rfl);obtain⟨xs,hx,bx⟩: ∃xs,zr W 0 W.heap.size .u8 (.slice ka kl kcp) xs∧ ∀x∈xs,(Lit.int .u8 x).wf=true:=by obtain⟨m,hm⟩:=h0;exact QO Tryz.underlying22 Tryz.underlying5 (by kernel_rfl) hm
 obtain⟨ms,hm,bm⟩: ∃xs,zr W 0 W.heap.size .u8 (.slice ka' kl' kcp') xs∧ ∀x∈xs,(Lit.int .u8 x).wf=true:=by obtain⟨m,hm⟩:=h1;exact QO Tryz.underlying22 Tryz.underlying5 (by kernel_rfl) hm
 obtain⟨⟨vL,vM,vK,hG⟩,hE,hM⟩:=acv hL;have hGw:=XI hsh;obtain⟨g1,g2,g3,g4,g5,g6,rfl⟩: ∃g1 g2 g3 g4 g5 g6,gs= [g1,g2,g3,g4,g5,g6]:=by
  match gs,hV0 with
  | [g1,g2,g3,g4,g5,g6],_=>exact⟨g1,g2,g3,g4,g5,g6,rfl⟩
 clear hA0 hval0;refine(Kk (VJ bx) (VJ bm) hx hm (Nat.le_refl _) hG hE hM hGw).mono fun e W' ⟨he,hch⟩=>?_;have bel:=hch.below (Or.inl (Nat.le_refl 0));subst he;exact⟨_,rfl,_,_,_,[],_,_,hW',trodAll_mk1 (shut_bool Tryz.underlying4 _),(trodAll_cons_mk (Below.trod laidOut (by kernel_rfl) (of_decide_eq_true (by kernel_rfl)) k0 bel lt0) (trodAll_cons_mk (Below.trod laidOut (by kernel_rfl) (of_decide_eq_true (by kernel_rfl)) k1 bel lt1) trodAll_mk0)),Below.trodVars laidOut bel (by kernel_rfl) hV0,bel.frame _,fun h=>by cases h⟩
theorem Xe:Rows.FnLoggedSaid:=
 OpenClaim.holds_of_wide 3 Tryz.f3 rfl rfl rfl rfl rfl rfl rfl ⟨rfl,rfl,rfl,rfl,rfl⟩ rfl rfl rfl rfl rfl (by kernel_rfl) Tryz.func3 (by kernel_rfl)
  (of_decide_eq_true (by kernel_rfl)) (by unfold Func.isWrapper;first|(rw[if_pos (by decide+kernel)];kernel_rfl)|(rw[if_neg (by decide+kernel)];exact⟨rfl,rfl⟩))
  (fun os started H enc _=>QR os started H enc)
#print axioms Xe
end Go.Proofs.YtacjklochmelfaaGreatDoor
