/- What this claim leans on. -/
import Derived.Test.YtipmllfnpldbdaaGreatDoorYPre
import Derived.Test.YtipmllfnpldbdaaGreatDoorRows
import Derived.Below
import Derived.KernelRfl
import Derived.LaidEql
import Derived.Lib.Hide
import Derived.RowKitTokens
import Derived.Stop.Asserts
import Derived.WalkKit
set_option linter.unusedVariables false
set_option linter.unusedSimpArgs false
namespace Go.Proofs.YtipmllfnpldbdaaGreatDoor
open Go Go.RowKit Go.Proofs.Tryz
open Go.Extern.Stop Go.Stop Go.Extern
set_option maxHeartbeats 16000000
theorem jh (h : Value) (w : World) : (Go.method 353 181 (.agg #[h]) "Kind").run prog w = .ok (177,h) w:=zm
theorem jg (h : Value) (w : World) : (Go.method 353 181 (.agg #[h]) "Elem").run prog w = .ok (191,.agg #[h]) w:=zm
theorem kJ (h : Value) (w : World) : (Go.method 353 181 (.agg #[h]) "Implements").run prog w = .ok (192,.agg #[h]) w:=zm
theorem kI (h : Value) (w : World) : (Go.method 353 181 (.agg #[h]) "AssignableTo").run prog w = .ok (189,.agg #[h]) w:=zm
theorem dI (t:Addr)(w:World):(ReflectliteValue.unpack (.iface 149 (.pointer (some t)))).run prog w=.ok (.agg #[.pointer (some ⟨4,149,none⟩),.pointer (some ⟨w.heap.size,0,none⟩),.int .u64 150]) (w.alloc (.cells #[.pointer (some t)] 149)):=zm
theorem bJ (z:Int)(w:World):(ReflectliteValue.unpack (.iface 71 (.int .i64 z))).run prog w=.ok (.agg #[.pointer (some ⟨4,71,none⟩),.pointer (some ⟨w.heap.size,0,none⟩),.int .u64 130]) (w.alloc (.cells #[(.int .i64 z)] 71)):=zm
theorem eW (a : Addr) (w : World) : (ReflectliteValue.methodAny (ReflectliteValue.valueError "reflectlite.Value.Type" 0) (fun t _ _ _ => ReflectliteType.toType t) #[.agg #[.pointer (some ⟨4,149,none⟩),.pointer (some a),.int .u64 150]]).run prog w = .ok (.iface 181 (.agg #[.pointer (some ⟨4,149,none⟩)])) w:=zm
theorem eU (w:World):((ReflectliteType.abiMethod λt=>(λa:Nat=>Value.int IntKind.u8 (a:Int))<$>Rtype.kind t) #[.pointer (some ⟨4,149,none⟩)]).run prog w=.ok (.int .u8 22) w:=zm
theorem dG (w:World):((ReflectliteType.abiMethod λt=>(λa:Nat=>Value.int IntKind.u8 (a:Int))<$>Rtype.kind t) #[.pointer (some ⟨4,71,none⟩)]).run prog w=.ok (.int .u8 2) w:=zm
theorem eS (w:World):(ReflectliteType.method ReflectliteType.elem #[.agg #[.pointer (some ⟨4,149,none⟩)]]).run prog w=.ok (.iface 181 (.agg #[.pointer (some ⟨4,71,none⟩)])) w:=zm
theorem dE (w : World) : (ReflectliteType.relation "Implements" ReflectliteType.implements_ #[.agg #[.pointer (some ⟨4,71,none⟩)],.iface 181 (.agg #[.pointer (some ⟨4,37,none⟩)])]).run prog w = .ok (.bool true) w:=zm
theorem io (v:Value)(w:World):(ReflectliteType.typeOf #[.iface 71 v]).run prog w=.ok (.iface 181 (.agg #[.pointer (some ⟨4,71,none⟩)])) w:=zm
theorem eQ (w : World) : (ReflectliteType.relation "AssignableTo" ReflectliteType.assignableTo #[.agg #[.pointer (some ⟨4,71,none⟩)],.iface 181 (.agg #[.pointer (some ⟨4,71,none⟩)])]).run prog w = .ok (.bool true) w:=zm
theorem Xq (w : World) : (ReflectliteType.relation "AssignableTo" ReflectliteType.assignableTo #[.agg #[.pointer (some ⟨4,71,none⟩)],.iface 181 (.agg #[.pointer (some ⟨4,144,none⟩)])]).run prog w = .ok (.bool false) w:=zm
theorem Yj (w:World):(Rtype.elem? 149).run prog w=.ok (some 71) w:=zm
theorem qb (p:Addr)(w:World):(ReflectliteValue.mk 71 p ReflectliteValue.flagAddr).run prog w=.ok (.agg #[.pointer (some ⟨4,71,none⟩),.pointer (some p),.int .u64 386]) w:=zm
theorem ep (a:Addr)(w:World):(ReflectliteValue.parts (.agg #[.pointer (some ⟨4,149,none⟩),.pointer (some a),.int .u64 150])).run prog w=.ok (some (149,a,150)) w:=zm
theorem Xv (a:Addr)(w:World):(ReflectliteValue.parts (.agg #[.pointer (some ⟨4,71,none⟩),.pointer (some a),.int .u64 130])).run prog w=.ok (some (71,a,130)) w:=zm
theorem Xg (a:Addr)(w:World):(ReflectliteValue.parts (.agg #[.pointer (some ⟨4,71,none⟩),.pointer (some a),.int .u64 386])).run prog w=.ok (some (71,a,386)) w:=zm
theorem Y8 (w:World):(Rtype.directlyAssignable 71 71).run prog w=.ok true w:=zm
theorem ek (a p:Addr)(W:World)(ha:W.cell? a=some (.pointer (some p))):
  (ReflectliteValue.method (ReflectliteValue.valueError "reflectlite.Value.IsNil" 0) ReflectliteValue.isNil #[.agg #[.pointer (some ⟨4,149,none⟩),.pointer (some a),.int .u64 150]]).run prog W = .ok (.bool false) W:=by
 show Sem.run _ (Bind.bind (m:=Sem) _ _) _=_;simp only [Sem.run_bind,Array.getLit,List.getElem_toArray,List.getElem_cons_zero,ep,Result.andThen];simp [ReflectliteValue.isNil,loadVar,isAgg,underlying,underlying149,ha,Result.andThen]
theorem ei (a p:Addr)(W:World)(ha:W.cell? a=some (.pointer (some p))):
  (ReflectliteValue.method (ReflectliteValue.valueError "reflectlite.Value.Elem" 0) ReflectliteValue.elem #[.agg #[.pointer (some ⟨4,149,none⟩),.pointer (some a),.int .u64 150]]).run prog W = .ok (.agg #[.pointer (some ⟨4,71,none⟩),.pointer (some p),.int .u64 386]) W:=by
 show Sem.run _ (Bind.bind (m:=Sem) _ _) _=_;simp only [Sem.run_bind,Array.getLit,List.getElem_toArray,List.getElem_cons_zero,ep,Result.andThen];simp [ReflectliteValue.elem,loadVar,isAgg,underlying,underlying149,ha,Result.andThen,Yj,qb]
theorem bI (ta b:Addr)(z:Int)(old:Value)(W:World)(hb:W.cell? b=some (.int .i64 z))(ht:W.cell? ta=some old)(hf:W.frozen? ta=false):
  (ReflectliteValue.set #[.agg #[.pointer (some ⟨4,71,none⟩),.pointer (some ta),.int .u64 386],.agg #[.pointer (some ⟨4,71,none⟩),.pointer (some b),.int .u64 130]]).run prog W=.ok (.tuple #[]) (W.setCell ta (.int .i64 z)):=by
 show Sem.run _ (Bind.bind (m:=Sem) _ _) _=_;simp only [Sem.run_bind,Array.getLit,List.getElem_toArray,List.getElem_cons_zero,List.getElem_cons_succ,Xg,Xv,Result.andThen];simp [ReflectliteValue.flagAddr,loadVar,isAgg,underlying,underlying71,hb,Result.andThen,Y8,storeVar,Value.cells,storeCells,Addr.add];rw [run_store prog W ta _ _ (by rfl)];simp [ht,hf]
theorem dH (t:Addr)(w:World):(ReflectliteValue.unpack (.iface 148 (.pointer (some t)))).run prog w=.ok (.agg #[.pointer (some ⟨4,148,none⟩),.pointer (some ⟨w.heap.size,0,none⟩),.int .u64 150]) (w.alloc (.cells #[.pointer (some t)] 148)):=zm
theorem ti (z:Addr)(w:World):(ReflectliteValue.unpack (.iface 144 (.pointer (some z)))).run prog w=.ok (.agg #[.pointer (some ⟨4,144,none⟩),.pointer (some ⟨w.heap.size,0,none⟩),.int .u64 150]) (w.alloc (.cells #[(.pointer (some z))] 144)):=zm
theorem eV (a : Addr) (w : World) : (ReflectliteValue.methodAny (ReflectliteValue.valueError "reflectlite.Value.Type" 0) (fun t _ _ _ => ReflectliteType.toType t) #[.agg #[.pointer (some ⟨4,148,none⟩),.pointer (some a),.int .u64 150]]).run prog w = .ok (.iface 181 (.agg #[.pointer (some ⟨4,148,none⟩)])) w:=zm
theorem eT (w:World):((ReflectliteType.abiMethod λt=>(λa:Nat=>Value.int IntKind.u8 (a:Int))<$>Rtype.kind t) #[.pointer (some ⟨4,148,none⟩)]).run prog w=.ok (.int .u8 22) w:=zm
theorem dF (w:World):((ReflectliteType.abiMethod λt=>(λa:Nat=>Value.int IntKind.u8 (a:Int))<$>Rtype.kind t) #[.pointer (some ⟨4,144,none⟩)]).run prog w=.ok (.int .u8 22) w:=zm
theorem eR (w:World):(ReflectliteType.method ReflectliteType.elem #[.agg #[.pointer (some ⟨4,148,none⟩)]]).run prog w=.ok (.iface 181 (.agg #[.pointer (some ⟨4,144,none⟩)])) w:=zm
theorem dD (w : World) : (ReflectliteType.relation "Implements" ReflectliteType.implements_ #[.agg #[.pointer (some ⟨4,144,none⟩)],.iface 181 (.agg #[.pointer (some ⟨4,37,none⟩)])]).run prog w = .ok (.bool true) w:=zm
theorem es (v:Value)(w:World):(ReflectliteType.typeOf #[.iface 144 v]).run prog w=.ok (.iface 181 (.agg #[.pointer (some ⟨4,144,none⟩)])) w:=zm
theorem Xp (w : World) : (ReflectliteType.relation "AssignableTo" ReflectliteType.assignableTo #[.agg #[.pointer (some ⟨4,144,none⟩)],.iface 181 (.agg #[.pointer (some ⟨4,71,none⟩)])]).run prog w = .ok (.bool false) w:=zm
theorem Xo (w : World) : (ReflectliteType.relation "AssignableTo" ReflectliteType.assignableTo #[.agg #[.pointer (some ⟨4,144,none⟩)],.iface 181 (.agg #[.pointer (some ⟨4,144,none⟩)])]).run prog w = .ok (.bool true) w:=zm
theorem Yi (w:World):(Rtype.elem? 148).run prog w=.ok (some 144) w:=zm
theorem qa (p:Addr)(w:World):(ReflectliteValue.mk 144 p ReflectliteValue.flagAddr).run prog w=.ok (.agg #[.pointer (some ⟨4,144,none⟩),.pointer (some p),.int .u64 406]) w:=zm
theorem el (a:Addr)(w:World):(ReflectliteValue.parts (.agg #[.pointer (some ⟨4,148,none⟩),.pointer (some a),.int .u64 150])).run prog w=.ok (some (148,a,150)) w:=zm
theorem Xu (a:Addr)(w:World):(ReflectliteValue.parts (.agg #[.pointer (some ⟨4,144,none⟩),.pointer (some a),.int .u64 150])).run prog w=.ok (some (144,a,150)) w:=zm
theorem Xf (a:Addr)(w:World):(ReflectliteValue.parts (.agg #[.pointer (some ⟨4,144,none⟩),.pointer (some a),.int .u64 406])).run prog w=.ok (some (144,a,406)) w:=zm
theorem Y7 (w:World):(Rtype.directlyAssignable 144 144).run prog w=.ok true w:=zm
theorem ej (a p:Addr)(W:World)(ha:W.cell? a=some (.pointer (some p))):
  (ReflectliteValue.method (ReflectliteValue.valueError "reflectlite.Value.IsNil" 0) ReflectliteValue.isNil #[.agg #[.pointer (some ⟨4,148,none⟩),.pointer (some a),.int .u64 150]]).run prog W = .ok (.bool false) W:=by
 show Sem.run _ (Bind.bind (m:=Sem) _ _) _=_;simp only [Sem.run_bind,Array.getLit,List.getElem_toArray,List.getElem_cons_zero,el,Result.andThen];simp [ReflectliteValue.isNil,loadVar,isAgg,underlying,underlying148,ha,Result.andThen]
theorem Y9 (a p:Addr)(W:World)(ha:W.cell? a=some (.pointer (some p))):
  (ReflectliteValue.method (ReflectliteValue.valueError "reflectlite.Value.Elem" 0) ReflectliteValue.elem #[.agg #[.pointer (some ⟨4,148,none⟩),.pointer (some a),.int .u64 150]]).run prog W = .ok (.agg #[.pointer (some ⟨4,144,none⟩),.pointer (some p),.int .u64 406]) W:=by
 show Sem.run _ (Bind.bind (m:=Sem) _ _) _=_;simp only [Sem.run_bind,Array.getLit,List.getElem_toArray,List.getElem_cons_zero,el,Result.andThen];simp [ReflectliteValue.elem,loadVar,isAgg,underlying,underlying148,ha,Result.andThen,Yi,qa]
theorem th (ta b:Addr)(z:Addr)(old:Value)(W:World)(hb:W.cell? b=some (.pointer (some z)))(ht:W.cell? ta=some old)(hf:W.frozen? ta=false):
  (ReflectliteValue.set #[.agg #[.pointer (some ⟨4,144,none⟩),.pointer (some ta),.int .u64 406],.agg #[.pointer (some ⟨4,144,none⟩),.pointer (some b),.int .u64 150]]).run prog W=.ok (.tuple #[]) (W.setCell ta (.pointer (some z))):=by
 show Sem.run _ (Bind.bind (m:=Sem) _ _) _=_;simp only [Sem.run_bind,Array.getLit,List.getElem_toArray,List.getElem_cons_zero,List.getElem_cons_succ,Xf,Xu,Result.andThen];simp [ReflectliteValue.flagAddr,loadVar,isAgg,underlying,underlying144,hb,Result.andThen,Y7,storeVar,Value.cells,storeCells,Addr.add];rw [run_store prog W ta _ _ (by rfl)];simp [ht,hf]
theorem tg (z:Int)(t:Addr)(old:Value)(w:World)(hg:w.cell? ⟨0,0,none⟩=some (.iface 181 (.agg #[.pointer (some ⟨4,37,none⟩)])))(a:w.cell? t=some old)(g:w.frozen? t=false):
  Calls prog 91 #[.iface 71 (.int .i64 z),.iface 149 (.pointer (some t))] w λe w'=>e=.returned (.bool true)/\w'=((((w.alloc (.cells #[.pointer (some t)] 149)).alloc (.cells #[.pointer (some ⟨4,149,none⟩),.pointer (some ⟨w.heap.size,0,none⟩),.int .u64 150] 163)).alloc (.cells #[.pointer (some ⟨4,149,none⟩),.pointer (some ⟨w.heap.size,0,none⟩),.int .u64 150] 163)).alloc (.cells #[(.int .i64 z)] 71)).setCell t (.int .i64 z):=by
 have x_typeOf:=@run_callFunc_extern prog 122 _ ReflectliteType.typeOf func122 zm zm zm zm;have x_valueOf:=@run_callFunc_extern prog 109 _ (λargs=>ReflectliteValue.unpack (args.getD 0 (.tuple #[]))) func109 zm zm zm zm;have x_type:=@run_callFunc_extern prog 110 _ (ReflectliteValue.methodAny (ReflectliteValue.valueError "reflectlite.Value.Type" 0) (fun t _ _ _ => ReflectliteType.toType t)) func110 zm zm zm zm
 have x_isNil:=@run_callFunc_extern prog 111 _ (ReflectliteValue.method (ReflectliteValue.valueError "reflectlite.Value.IsNil" 0) ReflectliteValue.isNil) func111 zm zm zm zm
 have x_kind:=@run_callFunc_extern prog 177 _ (ReflectliteType.abiMethod λt=>do pure (.int .u8 (<-Rtype.kind t))) func177 zm zm zm zm;have x_telem:=@run_callFunc_extern prog 191 _ (ReflectliteType.method ReflectliteType.elem) func191 zm zm zm zm;have x_implements:=@run_callFunc_extern prog 192 _ (ReflectliteType.relation "Implements" ReflectliteType.implements_) func192 zm zm zm zm
 have x_assignable:=@run_callFunc_extern prog 189 _ (ReflectliteType.relation "AssignableTo" ReflectliteType.assignableTo) func189 zm zm zm zm
 have x_elem:=@run_callFunc_extern prog 123 _ (ReflectliteValue.method (ReflectliteValue.valueError "reflectlite.Value.Elem" 0) ReflectliteValue.elem) func123 zm zm zm zm
 have x_set:=@run_callFunc_extern prog 124 _ ReflectliteValue.set func124 zm zm zm zm;have t0:=io;have m1:=kI;have m2:=eQ;have m3:=bJ;have m4:=dI;have m5:=eW;have m6:=jh;have m7:=jg;have m8:=kJ;have m9:=eU;have n1:=dG;have n2:=eS;have n3:=dE;have n4:=ek ⟨w.heap.size,0,none⟩ t ((w.alloc (.cells #[.pointer (some t)] 149)).alloc (.cells #[.pointer (some ⟨4,149,none⟩),.pointer (some ⟨w.heap.size,0,none⟩),.int .u64 150] 163)) zD;have h:0<w.heap.size:=qT w ⟨0,0,none⟩ hg;have d:t.block<w.heap.size:=qT w t a;have hg2:((w.alloc (.cells #[.pointer (some t)] 149)).alloc (.cells #[.pointer (some ⟨4,149,none⟩),.pointer (some ⟨w.heap.size,0,none⟩),.int .u64 150] 163)).cell? ⟨0,0,none⟩=some (.iface 181 (.agg #[.pointer (some ⟨4,37,none⟩)])):=by
  rw [World.cell?_alloc_lt _ _ ⟨0,0,none⟩ zD,World.cell?_alloc_lt _ _ ⟨0,0,none⟩ h];exact hg
 have n5:=ei ⟨w.heap.size,0,none⟩ t (((w.alloc (.cells #[.pointer (some t)] 149)).alloc (.cells #[.pointer (some ⟨4,149,none⟩),.pointer (some ⟨w.heap.size,0,none⟩),.int .u64 150] 163)).alloc (.cells #[.pointer (some ⟨4,149,none⟩),.pointer (some ⟨w.heap.size,0,none⟩),.int .u64 150] 163)) (by rw [World.cell?_alloc_lt _ _ ⟨w.heap.size,0,none⟩ (by simp;omega)];simp);have n6:=bI t ⟨w.heap.size + 1 + 1 + 1,0,none⟩ z old ((((w.alloc (.cells #[.pointer (some t)] 149)).alloc (.cells #[.pointer (some ⟨4,149,none⟩),.pointer (some ⟨w.heap.size,0,none⟩),.int .u64 150] 163)).alloc (.cells #[.pointer (some ⟨4,149,none⟩),.pointer (some ⟨w.heap.size,0,none⟩),.int .u64 150] 163)).alloc (.cells #[(.int .i64 z)] 71))
  (by rw [World.cell?_alloc_at _ _ _ _ zD];rfl)
  (by rw [World.cell?_alloc_lt _ _ t (by simp;omega),World.cell?_alloc_lt _ _ t (by simp;omega),World.cell?_alloc_lt _ _ t (by simp;omega),World.cell?_alloc_lt _ _ t d];exact a)
  (by rw [World.frozen?_alloc_old _ _ t (by simp;omega),World.frozen?_alloc_old _ _ t (by simp;omega),World.frozen?_alloc_old _ _ t (by simp;omega),World.frozen?_alloc_old _ _ t (YP d)];exact g)
 go_enter func91,ntmps91;go_wp2;refine wp_loop_rounds 1 ?_;rw [rounds_succ];go_wp2;go_ret;exact⟨rfl,rfl⟩
theorem tf (z:Addr)(t:Addr)(old:Value)(w:World)(hg:w.cell? ⟨0,0,none⟩=some (.iface 181 (.agg #[.pointer (some ⟨4,37,none⟩)])))(a:w.cell? t=some old)(g:w.frozen? t=false):
  Calls prog 91 #[.iface 144 (.pointer (some z)),.iface 148 (.pointer (some t))] w λe w'=>e=.returned (.bool true)/\w'=((((w.alloc (.cells #[.pointer (some t)] 148)).alloc (.cells #[.pointer (some ⟨4,148,none⟩),.pointer (some ⟨w.heap.size,0,none⟩),.int .u64 150] 163)).alloc (.cells #[.pointer (some ⟨4,148,none⟩),.pointer (some ⟨w.heap.size,0,none⟩),.int .u64 150] 163)).alloc (.cells #[(.pointer (some z))] 144)).setCell t (.pointer (some z)):=by
 have x_typeOf:=@run_callFunc_extern prog 122 _ ReflectliteType.typeOf func122 zm zm zm zm;have x_valueOf:=@run_callFunc_extern prog 109 _ (λargs=>ReflectliteValue.unpack (args.getD 0 (.tuple #[]))) func109 zm zm zm zm;have x_type:=@run_callFunc_extern prog 110 _ (ReflectliteValue.methodAny (ReflectliteValue.valueError "reflectlite.Value.Type" 0) (fun t _ _ _ => ReflectliteType.toType t)) func110 zm zm zm zm
 have x_isNil:=@run_callFunc_extern prog 111 _ (ReflectliteValue.method (ReflectliteValue.valueError "reflectlite.Value.IsNil" 0) ReflectliteValue.isNil) func111 zm zm zm zm
 have x_kind:=@run_callFunc_extern prog 177 _ (ReflectliteType.abiMethod λt=>do pure (.int .u8 (<-Rtype.kind t))) func177 zm zm zm zm;have x_telem:=@run_callFunc_extern prog 191 _ (ReflectliteType.method ReflectliteType.elem) func191 zm zm zm zm;have x_implements:=@run_callFunc_extern prog 192 _ (ReflectliteType.relation "Implements" ReflectliteType.implements_) func192 zm zm zm zm
 have x_assignable:=@run_callFunc_extern prog 189 _ (ReflectliteType.relation "AssignableTo" ReflectliteType.assignableTo) func189 zm zm zm zm
 have x_elem:=@run_callFunc_extern prog 123 _ (ReflectliteValue.method (ReflectliteValue.valueError "reflectlite.Value.Elem" 0) ReflectliteValue.elem) func123 zm zm zm zm
 have x_set:=@run_callFunc_extern prog 124 _ ReflectliteValue.set func124 zm zm zm zm;have t0:=es;have m1:=kI;have m2:=Xo;have m3:=ti;have m4:=dH;have m5:=eV;have m6:=jh;have m7:=jg;have m8:=kJ;have m9:=eT;have n1:=dF;have n2:=eR;have n3:=dD;have n4:=ej ⟨w.heap.size,0,none⟩ t ((w.alloc (.cells #[.pointer (some t)] 148)).alloc (.cells #[.pointer (some ⟨4,148,none⟩),.pointer (some ⟨w.heap.size,0,none⟩),.int .u64 150] 163)) zD;have h:0<w.heap.size:=qT w ⟨0,0,none⟩ hg;have d:t.block<w.heap.size:=qT w t a;have hg2:((w.alloc (.cells #[.pointer (some t)] 148)).alloc (.cells #[.pointer (some ⟨4,148,none⟩),.pointer (some ⟨w.heap.size,0,none⟩),.int .u64 150] 163)).cell? ⟨0,0,none⟩=some (.iface 181 (.agg #[.pointer (some ⟨4,37,none⟩)])):=by
  rw [World.cell?_alloc_lt _ _ ⟨0,0,none⟩ zD,World.cell?_alloc_lt _ _ ⟨0,0,none⟩ h];exact hg
 have n5:=Y9 ⟨w.heap.size,0,none⟩ t (((w.alloc (.cells #[.pointer (some t)] 148)).alloc (.cells #[.pointer (some ⟨4,148,none⟩),.pointer (some ⟨w.heap.size,0,none⟩),.int .u64 150] 163)).alloc (.cells #[.pointer (some ⟨4,148,none⟩),.pointer (some ⟨w.heap.size,0,none⟩),.int .u64 150] 163)) (by rw [World.cell?_alloc_lt _ _ ⟨w.heap.size,0,none⟩ (by simp;omega)];simp);have n6:=th t ⟨w.heap.size + 1 + 1 + 1,0,none⟩ z old ((((w.alloc (.cells #[.pointer (some t)] 148)).alloc (.cells #[.pointer (some ⟨4,148,none⟩),.pointer (some ⟨w.heap.size,0,none⟩),.int .u64 150] 163)).alloc (.cells #[.pointer (some ⟨4,148,none⟩),.pointer (some ⟨w.heap.size,0,none⟩),.int .u64 150] 163)).alloc (.cells #[(.pointer (some z))] 144))
  (by rw [World.cell?_alloc_at _ _ _ _ zD];rfl)
  (by rw [World.cell?_alloc_lt _ _ t (by simp;omega),World.cell?_alloc_lt _ _ t (by simp;omega),World.cell?_alloc_lt _ _ t (by simp;omega),World.cell?_alloc_lt _ _ t d];exact a)
  (by rw [World.frozen?_alloc_old _ _ t (by simp;omega),World.frozen?_alloc_old _ _ t (by simp;omega),World.frozen?_alloc_old _ _ t (by simp;omega),World.frozen?_alloc_old _ _ t (YP d)];exact g)
 go_enter func91,ntmps91;go_wp2;refine wp_loop_rounds 1 ?_;rw [rounds_succ];go_wp2;go_ret;exact⟨rfl,rfl⟩
