import Derived.Test.YtacjklochmelfaaGreatDoorRows
import Derived.Test.YtacjklochmelfaaGreatDoorCells2
import Derived.LaidEql
import Derived.Stop.Asserts
import Derived.RowKitTokens
namespace Go.Proofs.YtacjklochmelfaaGreatDoor
open Go.RowKit Go.Extern.Stop Go.Stop Go.Extern
set_option maxRecDepth 100000
set_option maxHeartbeats 16000000
theorem adC (t:Value)(w:World):
  Calls Tryz.prog 130 #[.nilIface,t] w fun e w'=>e= .returned (.bool false)∧w'=w:=by
 go_enter Tryz.func130,Tryz.ntmps130;go_wp2;go_ret;exact⟨rfl,rfl⟩
theorem UH (t:Addr)(w:World):(ReflectliteValue.unpack (.iface 230 (.pointer (some t)))).run Tryz.prog w
  = .ok (.agg #[.pointer (some ⟨8,230,none⟩),.pointer (some (zd w.heap.size)),.int .u64 150]) (w.alloc (.cells #[.pointer (some t)] 230)):=by kernel_rfl
theorem aa5 (a:Addr)(w:World):(ReflectliteValue.methodAny (ReflectliteValue.valueError "reflectlite.Value.Type" 0) (fun t _ _ _=>ReflectliteType.toType t) #[.agg #[.pointer (some ⟨8,230,none⟩),.pointer (some a),.int .u64 150]]).run Tryz.prog w
  = .ok (.iface 266 (.agg #[.pointer (some ⟨8,230,none⟩)])) w:=by kernel_rfl
theorem VA (h:Value)(w:World):(Go.method 421 266 (.agg #[h]) "Kind").run Tryz.prog w= .ok (192,h) w:=by kernel_rfl
theorem aa3 (w:World):((ReflectliteType.abiMethod fun t=>(fun a:Nat=>Value.int IntKind.u8 (a:Int))<$>Rtype.kind t) #[.pointer (some ⟨8,230,none⟩)]).run Tryz.prog w= .ok (zb 22) w:=by kernel_rfl
theorem acs (w:World):((ReflectliteType.abiMethod fun t=>(fun a:Nat=>Value.int IntKind.u8 (a:Int))<$>Rtype.kind t) #[.pointer (some ⟨8,228,none⟩)]).run Tryz.prog w= .ok (zb 22) w:=by kernel_rfl
theorem KP (a:Addr)(w:World):(ReflectliteValue.parts (.agg #[.pointer (some ⟨8,230,none⟩),.pointer (some a),.int .u64 150])).run Tryz.prog w= .ok (some (230,a,150)) w:=by kernel_rfl
theorem Ny (a p:Addr)(W:World)(ha:W.cell? a=some (.pointer (some p))):
  (ReflectliteValue.method (ReflectliteValue.valueError "reflectlite.Value.IsNil" 0) ReflectliteValue.isNil #[.agg #[.pointer (some ⟨8,230,none⟩),.pointer (some a),.int .u64 150]]).run Tryz.prog W= .ok (.bool false) W:=by
 delta ReflectliteValue.method;delta ReflectliteValue.method.match_2;dsimp [Array.getLit];simp only[Sem.run_bind,KP,Result.andThen];simp[ReflectliteValue.isNil,loadVar,isAgg,underlying,Tryz.underlying230,ha,Result.andThen]
theorem Vz (h:Value)(w:World):(Go.method 421 266 (.agg #[h]) "Elem").run Tryz.prog w= .ok (211,.agg #[h]) w:=by kernel_rfl
theorem Jv (h:Value)(w:World):(Go.method 421 266 (.agg #[h]) "Implements").run Tryz.prog w= .ok (212,.agg #[h]) w:=by kernel_rfl
theorem QT (h:Value)(w:World):(Go.method 421 266 (.agg #[h]) "AssignableTo").run Tryz.prog w= .ok (209,.agg #[h]) w:=by kernel_rfl
theorem aa2 (w:World):(ReflectliteType.method ReflectliteType.elem #[.agg #[.pointer (some ⟨8,230,none⟩)]]).run Tryz.prog w= .ok (.iface 266 (.agg #[.pointer (some ⟨8,228,none⟩)])) w:=by kernel_rfl
theorem KO (w:World):(ReflectliteType.relation "Implements" ReflectliteType.implements_ #[.agg #[.pointer (some ⟨8,228,none⟩)],.iface 266 (.agg #[.pointer (some ⟨8,201,none⟩)])]).run Tryz.prog w= .ok (.bool true) w:=by kernel_rfl
theorem NA (v:Value)(w:World):(ReflectliteType.typeOf #[.iface 228 v]).run Tryz.prog w= .ok (.iface 266 (.agg #[.pointer (some ⟨8,228,none⟩)])) w:=by kernel_rfl
theorem KN (w:World):(ReflectliteType.relation "AssignableTo" ReflectliteType.assignableTo #[.agg #[.pointer (some ⟨8,228,none⟩)],.iface 266 (.agg #[.pointer (some ⟨8,228,none⟩)])]).run Tryz.prog w= .ok (.bool true) w:=by kernel_rfl
theorem Ew (e:Addr)(w:World):(ReflectliteValue.unpack (.iface 228 (.pointer (some e)))).run Tryz.prog w
  = .ok (.agg #[.pointer (some ⟨8,228,none⟩),.pointer (some (zd w.heap.size)),.int .u64 150]) (w.alloc (.cells #[.pointer (some e)] 228)):=by kernel_rfl
theorem Ev (w:World):(Rtype.elem? 230).run Tryz.prog w= .ok (some 228) w:=by kernel_rfl
theorem adQ (p:Addr)(w:World):(ReflectliteValue.mk 228 p ReflectliteValue.flagAddr).run Tryz.prog w= .ok (.agg #[.pointer (some ⟨8,228,none⟩),.pointer (some p),.int .u64 406]) w:=by kernel_rfl
theorem Nx (a p:Addr)(W:World)(ha:W.cell? a=some (.pointer (some p))):
  (ReflectliteValue.method (ReflectliteValue.valueError "reflectlite.Value.Elem" 0) ReflectliteValue.elem #[.agg #[.pointer (some ⟨8,230,none⟩),.pointer (some a),.int .u64 150]]).run Tryz.prog W
   = .ok (.agg #[.pointer (some ⟨8,228,none⟩),.pointer (some p),.int .u64 406]) W:=by
 delta ReflectliteValue.method;delta ReflectliteValue.method.match_2;dsimp [Array.getLit];simp only[Sem.run_bind,KP,Result.andThen];simp[ReflectliteValue.elem,loadVar,isAgg,underlying,Tryz.underlying230,ha,Result.andThen,Ev,adQ]
theorem Nz (a:Addr)(w:World):(ReflectliteValue.parts (.agg #[.pointer (some ⟨8,228,none⟩),.pointer (some a),.int .u64 406])).run Tryz.prog w= .ok (some (228,a,406)) w:=by kernel_rfl
theorem aa4 (a:Addr)(w:World):(ReflectliteValue.parts (.agg #[.pointer (some ⟨8,228,none⟩),.pointer (some a),.int .u64 150])).run Tryz.prog w= .ok (some (228,a,150)) w:=by kernel_rfl
theorem Nw (w:World):(Rtype.directlyAssignable 228 228).run Tryz.prog w= .ok true w:=by kernel_rfl
theorem ada (ta b e:Addr)(old:Value)(W:World)(hb:W.cell? b=some (.pointer (some e)))(ht:W.cell? ta=some old)(hf:W.frozen? ta=false):
  (ReflectliteValue.set #[.agg #[.pointer (some ⟨8,228,none⟩),.pointer (some ta),.int .u64 406],.agg #[.pointer (some ⟨8,228,none⟩),.pointer (some b),.int .u64 150]]).run Tryz.prog W
   = .ok (.tuple #[]) (W.setCell ta (.pointer (some e))):=by
 delta ReflectliteValue.set;delta ReflectliteValue.set.match_3;dsimp [Array.getLit];simp only[Sem.run_bind,Nz,aa4,Result.andThen];simp[ReflectliteValue.flagAddr,loadVar,isAgg,underlying,Tryz.underlying228,hb,Result.andThen,Nw,storeVar,Value.cells,storeCells,Addr.add];rw[run_store Tryz.prog W ta _ _ (by rfl)];simp[ht,hf]
def Zg (w:World):Prop:=w.cell? (zd 3)=some (.iface 266 (.agg #[.pointer (some ⟨8,201,none⟩)]))
theorem Zg.lt {w:World}(h:Zg w):3<w.heap.size:=zF h
theorem Zg.chg {w w':World}{lo hi:Nat}(h:Zg w)(c:Chg lo hi w w')(hlo:hi≤lo∨8≤lo):Zg w':=c.cell h (by omega)
theorem adB (e t:Addr)(old:Value)(w:World)(hg:Zg w)(ht0:w.cell? t=some old)(hf0:w.frozen? t=false):
  Calls Tryz.prog 130 #[.iface 228 (.pointer (some e)),.iface 230 (.pointer (some t))] w fun ev w'=>ev= .returned (.bool true)∧w'=((((w.alloc (.cells #[.pointer (some t)] 230)).alloc (.cells #[.pointer (some ⟨8,230,none⟩),.pointer (some (zd w.heap.size)),.int .u64 150] 244)).alloc (.cells #[.pointer (some ⟨8,230,none⟩),.pointer (some (zd w.heap.size)),.int .u64 150] 244)).alloc (.cells #[.pointer (some e)] 228)).setCell t (.pointer (some e)):=by
 have h6:= @run_callFunc_extern Tryz.prog 147 _ (fun args=>ReflectliteValue.unpack (args.getD 0 (.tuple #[]))) Tryz.func147 (by kernel_rfl) (by kernel_rfl) (by kernel_rfl) (by kernel_rfl);have h7:= @run_callFunc_extern Tryz.prog 148 _ (ReflectliteValue.methodAny (ReflectliteValue.valueError "reflectlite.Value.Type" 0) (fun t _ _ _=>ReflectliteType.toType t)) Tryz.func148 (by kernel_rfl) (by kernel_rfl) (by kernel_rfl) (by kernel_rfl)
 have h8:= @run_callFunc_extern Tryz.prog 149 _ (ReflectliteValue.method (ReflectliteValue.valueError "reflectlite.Value.IsNil" 0) ReflectliteValue.isNil) Tryz.func149 (by kernel_rfl) (by kernel_rfl) (by kernel_rfl) (by kernel_rfl);have h27:= @run_callFunc_extern Tryz.prog 192 _ (ReflectliteType.abiMethod fun t=>do pure (zb (←Rtype.kind t))) Tryz.func192 (by kernel_rfl) (by kernel_rfl) (by kernel_rfl) (by kernel_rfl)
 have h37:= @run_callFunc_extern Tryz.prog 211 _ (ReflectliteType.method ReflectliteType.elem) Tryz.func211 (by kernel_rfl) (by kernel_rfl) (by kernel_rfl) (by kernel_rfl);have h38:= @run_callFunc_extern Tryz.prog 212 _ (ReflectliteType.relation "Implements" ReflectliteType.implements_) Tryz.func212 (by kernel_rfl) (by kernel_rfl) (by kernel_rfl) (by kernel_rfl);have h10:= @run_callFunc_extern Tryz.prog 159 _ ReflectliteType.typeOf Tryz.func159 (by kernel_rfl) (by kernel_rfl) (by kernel_rfl) (by kernel_rfl)
 have h35:= @run_callFunc_extern Tryz.prog 209 _ (ReflectliteType.relation "AssignableTo" ReflectliteType.assignableTo) Tryz.func209 (by kernel_rfl) (by kernel_rfl) (by kernel_rfl) (by kernel_rfl);have h11:= @run_callFunc_extern Tryz.prog 160 _ (ReflectliteValue.method (ReflectliteValue.valueError "reflectlite.Value.Elem" 0) ReflectliteValue.elem) Tryz.func160 (by kernel_rfl) (by kernel_rfl) (by kernel_rfl) (by kernel_rfl)
 have h12:= @run_callFunc_extern Tryz.prog 161 _ ReflectliteValue.set Tryz.func161 (by kernel_rfl) (by kernel_rfl) (by kernel_rfl) (by kernel_rfl);have tO:=NA;have mA:=QT;have a25:=KN;have v25:=Ew;have f6:=UH;have f7:=aa5;have mK:=VA;have mE:=Vz;have mI:=Jv;have k27:=aa3;have k25:=acs;have e27:=aa2;have i25:=KO;have n8:=Ny (zd w.heap.size) t ((w.alloc (.cells #[.pointer (some t)] 230)).alloc (.cells #[.pointer (some ⟨8,230,none⟩),.pointer (some (zd w.heap.size)),.int .u64 150] 244)) (by simp)
 have hlt:=hg.lt;have hg2:((w.alloc (.cells #[.pointer (some t)] 230)).alloc (.cells #[.pointer (some ⟨8,230,none⟩),.pointer (some (zd w.heap.size)),.int .u64 150] 244)).cell? (zd 3)=some (.iface 266 (.agg #[.pointer (some ⟨8,201,none⟩)])):=by
  rw[World.cell?_alloc_lt _ _ (zd 3) (by simp;omega),World.cell?_alloc_lt _ _ (zd 3) hlt];exact hg
 have htl:t.block<w.heap.size:=by
  rcases Nat.lt_or_ge t.block w.heap.size with h|h
  ·exact h
  ·simp[World.cell?,Array.getElem?_eq_none h] at ht0
 have el:=Nx (zd w.heap.size) t (((w.alloc (.cells #[.pointer (some t)] 230)).alloc (.cells #[.pointer (some ⟨8,230,none⟩),.pointer (some (zd w.heap.size)),.int .u64 150] 244)).alloc (.cells #[.pointer (some ⟨8,230,none⟩),.pointer (some (zd w.heap.size)),.int .u64 150] 244)) (by rw[World.cell?_alloc_lt _ _ (zd w.heap.size) (by simp;omega)];simp);have st:=ada t ⟨w.heap.size+1+1+1,0,none⟩ e old ((((w.alloc (.cells #[.pointer (some t)] 230)).alloc (.cells #[.pointer (some ⟨8,230,none⟩),.pointer (some (zd w.heap.size)),.int .u64 150] 244)).alloc (.cells #[.pointer (some ⟨8,230,none⟩),.pointer (some (zd w.heap.size)),.int .u64 150] 244)).alloc (.cells #[.pointer (some e)] 228))
  (by rw[World.cell?_alloc_at _ _ _ _ (by simp)];rfl)
  (by rw[World.cell?_alloc_lt _ _ t (by simp;omega),World.cell?_alloc_lt _ _ t (by simp;omega),World.cell?_alloc_lt _ _ t (by simp;omega),World.cell?_alloc_lt _ _ t htl];exact ht0)
  (by rw[World.frozen?_alloc_old _ _ t (by simp;omega),World.frozen?_alloc_old _ _ t (by simp;omega),World.frozen?_alloc_old _ _ t (by simp;omega),World.frozen?_alloc_old _ _ t (Nat.ne_of_lt htl)];exact hf0)
 unfold Zg at hg;go_enter Tryz.func130,Tryz.ntmps130;go_wp2;refine wp_loop_rounds 1 ?_;rw[rounds_succ];go_wp2;go_ret;exact⟨rfl,rfl⟩
theorem Zp (w:World):Calls Tryz.prog 106 #[.nilIface] w fun e w'=>e= .returned (.bool false)∧Chg 0 0 w w':=by
 have C:Chg 0 0 w (w.alloc (.cells #[.pointer none] 228)):=Chg.alloc (Chg.refl 0 0 w) _;go_enter Tryz.func106,Tryz.ntmps106;go_wp2_with (go_at_call 130;refine(adC _ _).mono ?_;rintro e w' ⟨rfl,rfl⟩);go_ret;exact⟨rfl,C⟩
theorem Ee (w:World)(a:Addr)(hg:Zg w):Calls Tryz.prog 106 #[.iface 228 (.pointer (some a))] w fun e w'=>e= .returned (.bool true)∧Chg 0 0 w w':=by
 have C:Chg 0 0 w (w.alloc (.cells #[.pointer none] 228)):=Chg.alloc (Chg.refl 0 0 w) _;have hgA:Zg (w.alloc (.cells #[.pointer none] 228)):=hg.chg C (by omega);have htA:(w.alloc (.cells #[.pointer none] 228)).cell? (zd w.heap.size)=some (.pointer none):=by simp
 have hfA:(w.alloc (.cells #[.pointer none] 228)).frozen? (zd w.heap.size)=false:=by simp
 have hA:=adB a (zd w.heap.size) (.pointer none) _ hgA htA hfA;have HC:Hid (Chg 0 0 w (w.alloc (.cells #[.pointer none] 228))):=C;clear C hgA htA hfA hg;go_enter Tryz.func106,Tryz.ntmps106;go_wp2_with fail;generalize w.alloc (.cells #[.pointer none] 228)=wa at*;refine hA.mono ?_;rintro e w' ⟨rfl,hw⟩;have C2:Chg 0 0 w w':=by
  rw[hw];exact((((HC.out.alloc _).alloc _).alloc _).alloc _).setCell (p:=(zd w.heap.size)) (Or.inr (Nat.le_refl _)) _
 have HC2:Hid (Chg 0 0 w w'):=C2;clear hA hw C2;go_wp2;go_ret;exact⟨rfl,HC2.out⟩
end Go.Proofs.YtacjklochmelfaaGreatDoor
