import Derived.Test.YthdeofoleiiibaaGreatDoorRowZ
import Derived.LaidEql
import Derived.Stop.Asserts
import Derived.RowKitTokens
namespace Go.Proofs.YthdeofoleiiibaaGreatDoor
open Go.RowKit Go.Extern.Stop Go.Stop Go.Extern
set_option maxRecDepth 100000
set_option maxHeartbeats 16000000
abbrev oW:= @rounds_succ
abbrev py:= @run_callFunc_extern
abbrev rk:= @World.cell?_alloc_lt
abbrev sC:= @World.frozen?_alloc_old
theorem lV (t:Value)(w:World):
  Calls Tryz.prog 152 #[.nilIface,t] w fun e w'=>e= .returned (.bool false)∧w'=w:=by
 go_enter Tryz.func152,Tryz.ntmps152;go_wp2;go_ret;exact⟨rfl,rfl⟩
theorem Nr (t:Addr)(w:World):(ReflectliteValue.unpack (.iface 246 (.pointer (some t)))).run Tryz.prog w
  = .ok (.agg #[.pointer (some ⟨8,246,none⟩),zh w.heap.size,.int .u64 150]) (w.alloc (zi #[.pointer (some t)] 246)):=zl
theorem fN (a:Addr)(w:World):(ReflectliteValue.methodAny (ReflectliteValue.valueError "reflectlite.Value.Type" 0) (fun t _ _ _=>ReflectliteType.toType t) #[.agg #[.pointer (some ⟨8,246,none⟩),.pointer (some a),.int .u64 150]]).run Tryz.prog w
  = .ok (.iface 289 (.agg #[.pointer (some ⟨8,246,none⟩)])) w:=zl
theorem U5 (h:Value)(w:World):(Go.method 444 289 (.agg #[h]) "Kind").run Tryz.prog w= .ok (217,h) w:=zl
theorem fL (w:World):((ReflectliteType.abiMethod fun t=>(fun a:Nat=>Value.int IntKind.u8 (a:Int))<$>Rtype.kind t) #[.pointer (some ⟨8,246,none⟩)]).run Tryz.prog w= .ok (zb 22) w:=zl
theorem iX (w:World):((ReflectliteType.abiMethod fun t=>(fun a:Nat=>Value.int IntKind.u8 (a:Int))<$>Rtype.kind t) #[.pointer (some ⟨8,244,none⟩)]).run Tryz.prog w= .ok (zb 22) w:=zl
theorem Uf (a:Addr)(w:World):(ReflectliteValue.parts (.agg #[.pointer (some ⟨8,246,none⟩),.pointer (some a),.int .u64 150])).run Tryz.prog w= .ok (some (246,a,150)) w:=zl
theorem cI (a p:Addr)(W:World)(b:W.cell? a=some (.pointer (some p))):
  (ReflectliteValue.method (ReflectliteValue.valueError "reflectlite.Value.IsNil" 0) ReflectliteValue.isNil #[.agg #[.pointer (some ⟨8,246,none⟩),.pointer (some a),.int .u64 150]]).run Tryz.prog W= .ok (.bool false) W:=by
 delta ReflectliteValue.method;delta ReflectliteValue.method.match_2;dsimp [Array.getLit];simp only[Sem.run_bind,Uf,Result.andThen];simp[ReflectliteValue.isNil,loadVar,isAgg,underlying,Tryz.underlying246,b,Result.andThen]
theorem U4 (h:Value)(w:World):(Go.method 444 289 (.agg #[h]) "Elem").run Tryz.prog w= .ok (236,.agg #[h]) w:=zl
theorem XE (h:Value)(w:World):(Go.method 444 289 (.agg #[h]) "Implements").run Tryz.prog w= .ok (237,.agg #[h]) w:=zl
theorem JW (h:Value)(w:World):(Go.method 444 289 (.agg #[h]) "AssignableTo").run Tryz.prog w= .ok (234,.agg #[h]) w:=zl
theorem fK (w:World):(ReflectliteType.method ReflectliteType.elem #[.agg #[.pointer (some ⟨8,246,none⟩)]]).run Tryz.prog w= .ok (.iface 289 (.agg #[.pointer (some ⟨8,244,none⟩)])) w:=zl
theorem Ue (w:World):(ReflectliteType.relation "Implements" ReflectliteType.implements_ #[.agg #[.pointer (some ⟨8,244,none⟩)],.iface 289 (.agg #[.pointer (some ⟨8,211,none⟩)])]).run Tryz.prog w= .ok (.bool true) w:=zl
theorem cM (v:Value)(w:World):(ReflectliteType.typeOf #[.iface 244 v]).run Tryz.prog w= .ok (.iface 289 (.agg #[.pointer (some ⟨8,244,none⟩)])) w:=zl
theorem Ud (w:World):(ReflectliteType.relation "AssignableTo" ReflectliteType.assignableTo #[.agg #[.pointer (some ⟨8,244,none⟩)],.iface 289 (.agg #[.pointer (some ⟨8,244,none⟩)])]).run Tryz.prog w= .ok (.bool true) w:=zl
theorem aA (e:Addr)(w:World):(ReflectliteValue.unpack (.iface 244 (.pointer (some e)))).run Tryz.prog w
  = .ok (.agg #[.pointer (some ⟨8,244,none⟩),zh w.heap.size,.int .u64 150]) (w.alloc (zi #[.pointer (some e)] 244)):=zl
theorem az (w:World):(Rtype.elem? 246).run Tryz.prog w= .ok (some 244) w:=zl
theorem ml (p:Addr)(w:World):(ReflectliteValue.mk 244 p ReflectliteValue.flagAddr).run Tryz.prog w= .ok (.agg #[.pointer (some ⟨8,244,none⟩),.pointer (some p),.int .u64 406]) w:=zl
theorem cH (a p:Addr)(W:World)(b:W.cell? a=some (.pointer (some p))):
  (ReflectliteValue.method (ReflectliteValue.valueError "reflectlite.Value.Elem" 0) ReflectliteValue.elem #[.agg #[.pointer (some ⟨8,246,none⟩),.pointer (some a),.int .u64 150]]).run Tryz.prog W
   = .ok (.agg #[.pointer (some ⟨8,244,none⟩),.pointer (some p),.int .u64 406]) W:=by
 delta ReflectliteValue.method;delta ReflectliteValue.method.match_2;dsimp [Array.getLit];simp only[Sem.run_bind,Uf,Result.andThen];simp[ReflectliteValue.elem,loadVar,isAgg,underlying,Tryz.underlying246,b,Result.andThen,az,ml]
theorem cK (a:Addr)(w:World):(ReflectliteValue.parts (.agg #[.pointer (some ⟨8,244,none⟩),.pointer (some a),.int .u64 406])).run Tryz.prog w= .ok (some (244,a,406)) w:=zl
theorem fM (a:Addr)(w:World):(ReflectliteValue.parts (.agg #[.pointer (some ⟨8,244,none⟩),.pointer (some a),.int .u64 150])).run Tryz.prog w= .ok (some (244,a,150)) w:=zl
theorem cG (w:World):(Rtype.directlyAssignable 244 244).run Tryz.prog w= .ok true w:=zl
theorem lw (a b e:Addr)(c:Value)(W:World)(d:W.cell? b=some (.pointer (some e)))(g:W.cell? a=some c)(f:W.frozen? a=false):
  (ReflectliteValue.set #[.agg #[.pointer (some ⟨8,244,none⟩),.pointer (some a),.int .u64 406],.agg #[.pointer (some ⟨8,244,none⟩),.pointer (some b),.int .u64 150]]).run Tryz.prog W
   = .ok (.tuple #[]) (W.setCell a (.pointer (some e))):=by
 delta ReflectliteValue.set;delta ReflectliteValue.set.match_3;dsimp [Array.getLit];simp only[Sem.run_bind,cK,fM,Result.andThen];simp[ReflectliteValue.flagAddr,loadVar,isAgg,underlying,Tryz.underlying244,d,Result.andThen,cG,storeVar,Value.cells,storeCells,Addr.add];rw[run_store Tryz.prog W a _ _ (by rfl)];simp[g,f]
def ZY (w:World):Prop:=w.cell? (zd 3)=some (.iface 289 (.agg #[.pointer (some ⟨8,211,none⟩)]))
theorem ZY.lt {w:World}(h:ZY w):3<w.heap.size:=zV h
theorem ZY.chg {w w':World}{lo hi:Nat}(h:ZY w)(c:zr lo hi w w')(a:hi≤lo∨8≤lo):ZY w':=c.cell h
theorem lU (e t:Addr)(c:Value)(w:World)(f:ZY w)(a:w.cell? t=some c)(d:w.frozen? t=false):
  Calls Tryz.prog 152 #[.iface 244 (.pointer (some e)),.iface 246 (.pointer (some t))] w fun ev w'=>ev= .returned (.bool true)∧w'=((((w.alloc (zi #[.pointer (some t)] 246)).alloc (zi #[.pointer (some ⟨8,246,none⟩),zh w.heap.size,.int .u64 150] 260)).alloc (zi #[.pointer (some ⟨8,246,none⟩),zh w.heap.size,.int .u64 150] 260)).alloc (zi #[.pointer (some e)] 244)).setCell t (.pointer (some e)):=by
 have B:= @py Tryz.prog 169 _ (fun args=>ReflectliteValue.unpack (args.getD 0 (.tuple #[]))) Tryz.func169 zl zl zl zl;have C:= @py Tryz.prog 170 _ (ReflectliteValue.methodAny (ReflectliteValue.valueError "reflectlite.Value.Type" 0) (fun t _ _ _=>ReflectliteType.toType t)) Tryz.func170 zl zl zl zl;have D:= @py Tryz.prog 171 _ (ReflectliteValue.method (ReflectliteValue.valueError "reflectlite.Value.IsNil" 0) ReflectliteValue.isNil) Tryz.func171 zl zl zl zl
 have n:= @py Tryz.prog 217 _ (ReflectliteType.abiMethod fun t=>do pure (zb (←Rtype.kind t))) Tryz.func217 zl zl zl zl;have p:= @py Tryz.prog 236 _ (ReflectliteType.method ReflectliteType.elem) Tryz.func236 zl zl zl zl;have q:= @py Tryz.prog 237 _ (ReflectliteType.relation "Implements" ReflectliteType.implements_) Tryz.func237 zl zl zl zl;have k:= @py Tryz.prog 184 _ ReflectliteType.typeOf Tryz.func184 zl zl zl zl
 have o:= @py Tryz.prog 234 _ (ReflectliteType.relation "AssignableTo" ReflectliteType.assignableTo) Tryz.func234 zl zl zl zl;have l:= @py Tryz.prog 185 _ (ReflectliteValue.method (ReflectliteValue.valueError "reflectlite.Value.Elem" 0) ReflectliteValue.elem) Tryz.func185 zl zl zl zl;have m:= @py Tryz.prog 186 _ ReflectliteValue.set Tryz.func186 zl zl zl zl;have K:=cM;have E:=JW;have i:=Ud;have x:=aA
 have z:=Nr;have A:=fN;have H:=U5;have F:=U4;have G:=XE;have v:=fL;have u:=iX;have j:=fK;have s:=Ue;have I:=cI (zd w.heap.size) t ((w.alloc (zi #[.pointer (some t)] 246)).alloc (zi #[.pointer (some ⟨8,246,none⟩),zh w.heap.size,.int .u64 150] 260)) zn;have g:=f.lt;have r:((w.alloc (zi #[.pointer (some t)] 246)).alloc (zi #[.pointer (some ⟨8,246,none⟩),zh w.heap.size,.int .u64 150] 260)).cell? (zd 3)=some (.iface 289 (.agg #[.pointer (some ⟨8,211,none⟩)])):=by
  rw[rk _ _ (zd 3) (by simp;omega),rk _ _ (zd 3) g];exact f
 have b:t.block<w.heap.size:=by
  rcases ri t.block w.heap.size with h|h
  ·exact h
  ·simp[World.cell?,Array.getElem?_eq_none h] at a
 have y:=cH (zd w.heap.size) t (((w.alloc (zi #[.pointer (some t)] 246)).alloc (zi #[.pointer (some ⟨8,246,none⟩),zh w.heap.size,.int .u64 150] 260)).alloc (zi #[.pointer (some ⟨8,246,none⟩),zh w.heap.size,.int .u64 150] 260)) (by rw[rk _ _ (zd w.heap.size) (by simp;omega)];simp);have J:=lw t ⟨w.heap.size+1+1+1,0,none⟩ e c ((((w.alloc (zi #[.pointer (some t)] 246)).alloc (zi #[.pointer (some ⟨8,246,none⟩),zh w.heap.size,.int .u64 150] 260)).alloc (zi #[.pointer (some ⟨8,246,none⟩),zh w.heap.size,.int .u64 150] 260)).alloc (zi #[.pointer (some e)] 244))
  (by rw[World.cell?_alloc_at _ _ _ _ zn];rfl)
  (by rw[rk _ _ t (by simp;omega),rk _ _ t (by simp;omega),rk _ _ t (by simp;omega),rk _ _ t b];exact a)
  (by rw[sC _ _ t (by simp;omega),sC _ _ t (by simp;omega),sC _ _ t (by simp;omega),sC _ _ t (Nat.ne_of_lt b)];exact d)
 unfold ZY at f;go_enter Tryz.func152,Tryz.ntmps152;go_wp2;refine wp_loop_rounds 1 ?_;rw[oW];go_wp2;go_ret;exact⟨rfl,rfl⟩
theorem Qe (w:World):Calls Tryz.prog 126 #[.nilIface] w fun e w'=>e= .returned (.bool false)∧zr 0 0 w w':=by
 have C:zr 0 0 w (w.alloc (zi #[.pointer none] 244)):=zr.al w;go_enter Tryz.func126,Tryz.ntmps126;go_wp2_with (go_at_call 152;refine(lV _ _).mono ?_;rintro e w' ⟨rfl,rfl⟩);go_ret;exact⟨rfl,C⟩
theorem N5 (w:World)(a:Addr)(i:ZY w):Calls Tryz.prog 126 #[.iface 244 (.pointer (some a))] w fun e w'=>e= .returned (.bool true)∧zr 0 0 w w':=by
 have C:zr 0 0 w (w.alloc (zi #[.pointer none] 244)):=zr.al w;have c:ZY (w.alloc (zi #[.pointer none] 244)):=i.chg C zk;have d:(w.alloc (zi #[.pointer none] 244)).cell? (zd w.heap.size)=some (.pointer none):=zn;have b:(w.alloc (zi #[.pointer none] 244)).frozen? (zd w.heap.size)=false:=zn;have h:=lU a (zd w.heap.size) (.pointer none) _ c d b;have k:Hid (zr 0 0 w (w.alloc (zi #[.pointer none] 244))):=C
 clear C c d b i;go_enter Tryz.func126,Tryz.ntmps126;go_wp2_with fail;generalize w.alloc (zi #[.pointer none] 244)=l at*;refine h.mono ?_;rintro e w' ⟨rfl,j⟩;have g:zr 0 0 w w':=by
  rw[j];exact((((k.alloc _).alloc _).alloc _).alloc _).setCell (p:=(zd w.heap.size)) (Or.inr nlR) _
 have f:Hid (zr 0 0 w w'):=g;clear h j g;go_wp2;go_ret;exact⟨rfl,f⟩
end Go.Proofs.YthdeofoleiiibaaGreatDoor
