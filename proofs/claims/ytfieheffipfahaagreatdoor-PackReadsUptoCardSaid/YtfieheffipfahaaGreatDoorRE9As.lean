/- What this claim leans on. -/
import Derived.Test.YtfieheffipfahaaGreatDoorRPre
import Derived.Test.YtfieheffipfahaaGreatDoorRows
import Derived.Below
import Derived.KernelRfl
import Derived.LaidEql
import Derived.Lib.Hide
import Derived.RowKitTokens
import Derived.Stop.Asserts
import Derived.WalkKit
namespace Go.Proofs.YtfieheffipfahaaGreatDoor
open Go Go.RowKit
open Go.Extern.Stop Go.Stop Go.Extern
set_option maxHeartbeats 16000000
set_option linter.unusedVariables false
theorem zgv (h : Value) (w : World) : (Go.method 364 164 (.agg #[h]) "Kind").run Tryz.prog w = .ok (190,h) w:=by kernel_rfl
theorem zgu (h : Value) (w : World) : (Go.method 364 164 (.agg #[h]) "Elem").run Tryz.prog w = .ok (199,.agg #[h]) w:=by kernel_rfl
theorem zcZ (h : Value) (w : World) : (Go.method 364 164 (.agg #[h]) "Implements").run Tryz.prog w = .ok (200,.agg #[h]) w:=by kernel_rfl
theorem zcu (h : Value) (w : World) : (Go.method 364 164 (.agg #[h]) "AssignableTo").run Tryz.prog w = .ok (197,.agg #[h]) w:=by kernel_rfl
theorem zjR (t : Addr) (w : World) : (ReflectliteValue.unpack (.iface 184 (.pointer (some t)))).run Tryz.prog w = .ok (.agg #[.pointer (some ⟨5,184,none⟩),.pointer (some ⟨w.heap.size,0,none⟩),.int .u64 150]) (w.alloc (.cells #[.pointer (some t)] 184)):=by kernel_rfl
theorem zlY (z : Int) (w : World) : (ReflectliteValue.unpack (.iface 47 (.int .i64 z))).run Tryz.prog w = .ok (.agg #[.pointer (some ⟨5,47,none⟩),.pointer (some ⟨w.heap.size,0,none⟩),.int .u64 130]) (w.alloc (.cells #[(.int .i64 z)] 47)):=by kernel_rfl
theorem zin (a : Addr) (w : World) : (ReflectliteValue.methodAny (ReflectliteValue.valueError "reflectlite.Value.Type" 0) (fun t _ _ _ => ReflectliteType.toType t) #[.agg #[.pointer (some ⟨5,184,none⟩),.pointer (some a),.int .u64 150]]).run Tryz.prog w = .ok (.iface 164 (.agg #[.pointer (some ⟨5,184,none⟩)])) w:=by kernel_rfl
theorem zil (w : World) : ((ReflectliteType.abiMethod fun t => (fun a : Nat => Value.int IntKind.u8 (a : Int)) <$> Rtype.kind t) #[.pointer (some ⟨5,184,none⟩)]).run Tryz.prog w = .ok (.int .u8 22) w:=by kernel_rfl
theorem zjP (w : World) : ((ReflectliteType.abiMethod fun t => (fun a : Nat => Value.int IntKind.u8 (a : Int)) <$> Rtype.kind t) #[.pointer (some ⟨5,47,none⟩)]).run Tryz.prog w = .ok (.int .u8 2) w:=by kernel_rfl
theorem zij (w : World) : (ReflectliteType.method ReflectliteType.elem #[.agg #[.pointer (some ⟨5,184,none⟩)]]).run Tryz.prog w = .ok (.iface 164 (.agg #[.pointer (some ⟨5,47,none⟩)])) w:=by kernel_rfl
theorem zjN (w : World) : (ReflectliteType.relation "Implements" ReflectliteType.implements_ #[.agg #[.pointer (some ⟨5,47,none⟩)],.iface 164 (.agg #[.pointer (some ⟨5,44,none⟩)])]).run Tryz.prog w = .ok (.bool true) w:=by kernel_rfl
theorem zfd (v : Value) (w : World) : (ReflectliteType.typeOf #[.iface 47 v]).run Tryz.prog w = .ok (.iface 164 (.agg #[.pointer (some ⟨5,47,none⟩)])) w:=by kernel_rfl
theorem zih (w : World) : (ReflectliteType.relation "AssignableTo" ReflectliteType.assignableTo #[.agg #[.pointer (some ⟨5,47,none⟩)],.iface 164 (.agg #[.pointer (some ⟨5,47,none⟩)])]).run Tryz.prog w = .ok (.bool true) w:=by kernel_rfl
theorem znH (w : World) : (ReflectliteType.relation "AssignableTo" ReflectliteType.assignableTo #[.agg #[.pointer (some ⟨5,47,none⟩)],.iface 164 (.agg #[.pointer (some ⟨5,123,none⟩)])]).run Tryz.prog w = .ok (.bool false) w:=by kernel_rfl
theorem zkR (w : World) : (Rtype.elem? 184).run Tryz.prog w = .ok (some 47) w:=by kernel_rfl
theorem as_mk_n (p : Addr) (w : World) : (ReflectliteValue.mk 47 p ReflectliteValue.flagAddr).run Tryz.prog w = .ok (.agg #[.pointer (some ⟨5,47,none⟩),.pointer (some p),.int .u64 386]) w:=by kernel_rfl
theorem zhu (a : Addr) (w : World) : (ReflectliteValue.parts (.agg #[.pointer (some ⟨5,184,none⟩),.pointer (some a),.int .u64 150])).run Tryz.prog w = .ok (some (184,a,150)) w:=by kernel_rfl
theorem znM (a : Addr) (w : World) : (ReflectliteValue.parts (.agg #[.pointer (some ⟨5,47,none⟩),.pointer (some a),.int .u64 130])).run Tryz.prog w = .ok (some (47,a,130)) w:=by kernel_rfl
theorem zlW (a : Addr) (w : World) : (ReflectliteValue.parts (.agg #[.pointer (some ⟨5,47,none⟩),.pointer (some a),.int .u64 386])).run Tryz.prog w = .ok (some (47,a,386)) w:=by kernel_rfl
theorem zlQ (w : World) : (Rtype.directlyAssignable 47 47).run Tryz.prog w = .ok true w:=by kernel_rfl
theorem zhs (a p : Addr) (W : World) (ha : W.cell? a = some (.pointer (some p))) :
  (ReflectliteValue.method (ReflectliteValue.valueError "reflectlite.Value.IsNil" 0) ReflectliteValue.isNil #[.agg #[.pointer (some ⟨5,184,none⟩),.pointer (some a),.int .u64 150]]).run Tryz.prog W = .ok (.bool false) W:=by
 show Sem.run _ (Bind.bind (m:=Sem) _ _) _ = _
 simp only [Sem.run_bind,Array.getLit,List.getElem_toArray,List.getElem_cons_zero,zhu,Result.andThen]
 simp [ReflectliteValue.isNil,loadVar,isAgg,underlying,Tryz.underlying184,ha,Result.andThen]
theorem zhq (a p : Addr) (W : World) (ha : W.cell? a = some (.pointer (some p))) :
  (ReflectliteValue.method (ReflectliteValue.valueError "reflectlite.Value.Elem" 0) ReflectliteValue.elem #[.agg #[.pointer (some ⟨5,184,none⟩),.pointer (some a),.int .u64 150]]).run Tryz.prog W = .ok (.agg #[.pointer (some ⟨5,47,none⟩),.pointer (some p),.int .u64 386]) W:=by
 show Sem.run _ (Bind.bind (m:=Sem) _ _) _ = _
 simp only [Sem.run_bind,Array.getLit,List.getElem_toArray,List.getElem_cons_zero,zhu,Result.andThen]
 simp [ReflectliteValue.elem,loadVar,isAgg,underlying,Tryz.underlying184,ha,Result.andThen,zkR,as_mk_n]
theorem zlX (ta b : Addr) (z : Int) (old : Value) (W : World) (hb : W.cell? b = some (.int .i64 z)) (ht : W.cell? ta = some old) (hf : W.frozen? ta = false) :
  (ReflectliteValue.set #[.agg #[.pointer (some ⟨5,47,none⟩),.pointer (some ta),.int .u64 386],.agg #[.pointer (some ⟨5,47,none⟩),.pointer (some b),.int .u64 130]]).run Tryz.prog W = .ok (.tuple #[]) (W.setCell ta (.int .i64 z)):=by
 show Sem.run _ (Bind.bind (m:=Sem) _ _) _ = _
 simp only [Sem.run_bind,Array.getLit,List.getElem_toArray,List.getElem_cons_zero,List.getElem_cons_succ,zlW,znM,Result.andThen]
 simp [ReflectliteValue.flagAddr,loadVar,isAgg,underlying,Tryz.underlying47,hb,Result.andThen,zlQ,storeVar,Value.cells,storeCells,Addr.add]
 rw [run_store Tryz.prog W ta _ _ (by rfl)]
 simp [ht,hf]
theorem zjQ (t : Addr) (w : World) : (ReflectliteValue.unpack (.iface 125 (.pointer (some t)))).run Tryz.prog w = .ok (.agg #[.pointer (some ⟨5,125,none⟩),.pointer (some ⟨w.heap.size,0,none⟩),.int .u64 150]) (w.alloc (.cells #[.pointer (some t)] 125)):=by kernel_rfl
theorem as_val_f (z : Addr) (w : World) : (ReflectliteValue.unpack (.iface 123 (.pointer (some z)))).run Tryz.prog w = .ok (.agg #[.pointer (some ⟨5,123,none⟩),.pointer (some ⟨w.heap.size,0,none⟩),.int .u64 150]) (w.alloc (.cells #[(.pointer (some z))] 123)):=by kernel_rfl
theorem zim (a : Addr) (w : World) : (ReflectliteValue.methodAny (ReflectliteValue.valueError "reflectlite.Value.Type" 0) (fun t _ _ _ => ReflectliteType.toType t) #[.agg #[.pointer (some ⟨5,125,none⟩),.pointer (some a),.int .u64 150]]).run Tryz.prog w = .ok (.iface 164 (.agg #[.pointer (some ⟨5,125,none⟩)])) w:=by kernel_rfl
theorem zik (w : World) : ((ReflectliteType.abiMethod fun t => (fun a : Nat => Value.int IntKind.u8 (a : Int)) <$> Rtype.kind t) #[.pointer (some ⟨5,125,none⟩)]).run Tryz.prog w = .ok (.int .u8 22) w:=by kernel_rfl
theorem zjO (w : World) : ((ReflectliteType.abiMethod fun t => (fun a : Nat => Value.int IntKind.u8 (a : Int)) <$> Rtype.kind t) #[.pointer (some ⟨5,123,none⟩)]).run Tryz.prog w = .ok (.int .u8 22) w:=by kernel_rfl
theorem zii (w : World) : (ReflectliteType.method ReflectliteType.elem #[.agg #[.pointer (some ⟨5,125,none⟩)]]).run Tryz.prog w = .ok (.iface 164 (.agg #[.pointer (some ⟨5,123,none⟩)])) w:=by kernel_rfl
theorem zjM (w : World) : (ReflectliteType.relation "Implements" ReflectliteType.implements_ #[.agg #[.pointer (some ⟨5,123,none⟩)],.iface 164 (.agg #[.pointer (some ⟨5,44,none⟩)])]).run Tryz.prog w = .ok (.bool true) w:=by kernel_rfl
theorem zhv (v : Value) (w : World) : (ReflectliteType.typeOf #[.iface 123 v]).run Tryz.prog w = .ok (.iface 164 (.agg #[.pointer (some ⟨5,123,none⟩)])) w:=by kernel_rfl
theorem znG (w : World) : (ReflectliteType.relation "AssignableTo" ReflectliteType.assignableTo #[.agg #[.pointer (some ⟨5,123,none⟩)],.iface 164 (.agg #[.pointer (some ⟨5,47,none⟩)])]).run Tryz.prog w = .ok (.bool false) w:=by kernel_rfl
theorem znF (w : World) : (ReflectliteType.relation "AssignableTo" ReflectliteType.assignableTo #[.agg #[.pointer (some ⟨5,123,none⟩)],.iface 164 (.agg #[.pointer (some ⟨5,123,none⟩)])]).run Tryz.prog w = .ok (.bool true) w:=by kernel_rfl
theorem zkQ (w : World) : (Rtype.elem? 125).run Tryz.prog w = .ok (some 123) w:=by kernel_rfl
theorem as_mk_f (p : Addr) (w : World) : (ReflectliteValue.mk 123 p ReflectliteValue.flagAddr).run Tryz.prog w = .ok (.agg #[.pointer (some ⟨5,123,none⟩),.pointer (some p),.int .u64 406]) w:=by kernel_rfl
theorem zht (a : Addr) (w : World) : (ReflectliteValue.parts (.agg #[.pointer (some ⟨5,125,none⟩),.pointer (some a),.int .u64 150])).run Tryz.prog w = .ok (some (125,a,150)) w:=by kernel_rfl
theorem znL (a : Addr) (w : World) : (ReflectliteValue.parts (.agg #[.pointer (some ⟨5,123,none⟩),.pointer (some a),.int .u64 150])).run Tryz.prog w = .ok (some (123,a,150)) w:=by kernel_rfl
theorem zlV (a : Addr) (w : World) : (ReflectliteValue.parts (.agg #[.pointer (some ⟨5,123,none⟩),.pointer (some a),.int .u64 406])).run Tryz.prog w = .ok (some (123,a,406)) w:=by kernel_rfl
theorem zlP (w : World) : (Rtype.directlyAssignable 123 123).run Tryz.prog w = .ok true w:=by kernel_rfl
theorem zhr (a p : Addr) (W : World) (ha : W.cell? a = some (.pointer (some p))) :
  (ReflectliteValue.method (ReflectliteValue.valueError "reflectlite.Value.IsNil" 0) ReflectliteValue.isNil #[.agg #[.pointer (some ⟨5,125,none⟩),.pointer (some a),.int .u64 150]]).run Tryz.prog W = .ok (.bool false) W:=by
 show Sem.run _ (Bind.bind (m:=Sem) _ _) _ = _
 simp only [Sem.run_bind,Array.getLit,List.getElem_toArray,List.getElem_cons_zero,zht,Result.andThen]
 simp [ReflectliteValue.isNil,loadVar,isAgg,underlying,Tryz.underlying125,ha,Result.andThen]
theorem zlR (a p : Addr) (W : World) (ha : W.cell? a = some (.pointer (some p))) :
  (ReflectliteValue.method (ReflectliteValue.valueError "reflectlite.Value.Elem" 0) ReflectliteValue.elem #[.agg #[.pointer (some ⟨5,125,none⟩),.pointer (some a),.int .u64 150]]).run Tryz.prog W = .ok (.agg #[.pointer (some ⟨5,123,none⟩),.pointer (some p),.int .u64 406]) W:=by
 show Sem.run _ (Bind.bind (m:=Sem) _ _) _ = _
 simp only [Sem.run_bind,Array.getLit,List.getElem_toArray,List.getElem_cons_zero,zht,Result.andThen]
 simp [ReflectliteValue.elem,loadVar,isAgg,underlying,Tryz.underlying125,ha,Result.andThen,zkQ,as_mk_f]
theorem as_set_f (ta b : Addr) (z : Addr) (old : Value) (W : World) (hb : W.cell? b = some (.pointer (some z))) (ht : W.cell? ta = some old) (hf : W.frozen? ta = false) :
  (ReflectliteValue.set #[.agg #[.pointer (some ⟨5,123,none⟩),.pointer (some ta),.int .u64 406],.agg #[.pointer (some ⟨5,123,none⟩),.pointer (some b),.int .u64 150]]).run Tryz.prog W = .ok (.tuple #[]) (W.setCell ta (.pointer (some z))):=by
 show Sem.run _ (Bind.bind (m:=Sem) _ _) _ = _
 simp only [Sem.run_bind,Array.getLit,List.getElem_toArray,List.getElem_cons_zero,List.getElem_cons_succ,zlV,znL,Result.andThen]
 simp [ReflectliteValue.flagAddr,loadVar,isAgg,underlying,Tryz.underlying123,hb,Result.andThen,zlP,storeVar,Value.cells,storeCells,Addr.add]
 rw [run_store Tryz.prog W ta _ _ (by rfl)]
 simp [ht,hf]
theorem as_hit_n (z : Int) (t : Addr) (old : Value) (w : World) (hg : w.cell? ⟨0,0,none⟩ = some (.iface 164 (.agg #[.pointer (some ⟨5,44,none⟩)]))) (ht0 : w.cell? t = some old) (hf0 : w.frozen? t = false) :
  Calls Tryz.prog 69 #[.iface 47 (.int .i64 z),.iface 184 (.pointer (some t))] w fun e w' => e = .returned (.bool true) ∧ w' = ((((w.alloc (.cells #[.pointer (some t)] 184)).alloc (.cells #[.pointer (some ⟨5,184,none⟩),.pointer (some ⟨w.heap.size,0,none⟩),.int .u64 150] 177)).alloc (.cells #[.pointer (some ⟨5,184,none⟩),.pointer (some ⟨w.heap.size,0,none⟩),.int .u64 150] 177)).alloc (.cells #[(.int .i64 z)] 47)).setCell t (.int .i64 z):=by
 have x_typeOf:=@run_callFunc_extern Tryz.prog 67 _ ReflectliteType.typeOf Tryz.func67 (by kernel_rfl) (by kernel_rfl) (by kernel_rfl) (by kernel_rfl)
 have x_valueOf:=@run_callFunc_extern Tryz.prog 112 _ (fun args => ReflectliteValue.unpack (args.getD 0 (.tuple #[]))) Tryz.func112 (by kernel_rfl) (by kernel_rfl) (by kernel_rfl) (by kernel_rfl)
 have x_type:=@run_callFunc_extern Tryz.prog 113 _ (ReflectliteValue.methodAny (ReflectliteValue.valueError "reflectlite.Value.Type" 0) (fun t _ _ _ => ReflectliteType.toType t)) Tryz.func113 (by kernel_rfl) (by kernel_rfl) (by kernel_rfl) (by kernel_rfl)
 have x_isNil:=@run_callFunc_extern Tryz.prog 114 _ (ReflectliteValue.method (ReflectliteValue.valueError "reflectlite.Value.IsNil" 0) ReflectliteValue.isNil) Tryz.func114 (by kernel_rfl) (by kernel_rfl) (by kernel_rfl) (by kernel_rfl)
 have x_kind:=@run_callFunc_extern Tryz.prog 190 _ (ReflectliteType.abiMethod fun t => do pure (.int .u8 (← Rtype.kind t))) Tryz.func190 (by kernel_rfl) (by kernel_rfl) (by kernel_rfl) (by kernel_rfl)
 have x_telem:=@run_callFunc_extern Tryz.prog 199 _ (ReflectliteType.method ReflectliteType.elem) Tryz.func199 (by kernel_rfl) (by kernel_rfl) (by kernel_rfl) (by kernel_rfl)
 have x_implements:=@run_callFunc_extern Tryz.prog 200 _ (ReflectliteType.relation "Implements" ReflectliteType.implements_) Tryz.func200 (by kernel_rfl) (by kernel_rfl) (by kernel_rfl) (by kernel_rfl)
 have x_assignable:=@run_callFunc_extern Tryz.prog 197 _ (ReflectliteType.relation "AssignableTo" ReflectliteType.assignableTo) Tryz.func197 (by kernel_rfl) (by kernel_rfl) (by kernel_rfl) (by kernel_rfl)
 have x_elem:=@run_callFunc_extern Tryz.prog 134 _ (ReflectliteValue.method (ReflectliteValue.valueError "reflectlite.Value.Elem" 0) ReflectliteValue.elem) Tryz.func134 (by kernel_rfl) (by kernel_rfl) (by kernel_rfl) (by kernel_rfl)
 have x_set:=@run_callFunc_extern Tryz.prog 135 _ ReflectliteValue.set Tryz.func135 (by kernel_rfl) (by kernel_rfl) (by kernel_rfl) (by kernel_rfl)
 have t0:=zfd
 have m1:=zcu
 have m2:=zih
 have m3:=zlY
 have m4:=zjR
 have m5:=zin
 have m6:=zgv
 have m7:=zgu
 have m8:=zcZ
 have m9:=zil
 have n1:=zjP
 have n2:=zij
 have n3:=zjN
 have n4:=zhs ⟨w.heap.size,0,none⟩ t ((w.alloc (.cells #[.pointer (some t)] 184)).alloc (.cells #[.pointer (some ⟨5,184,none⟩),.pointer (some ⟨w.heap.size,0,none⟩),.int .u64 150] 177)) (by simp)
 have hlt : 0 < w.heap.size:=World.block_lt_of_cell? w ⟨0,0,none⟩ hg
 have htl : t.block < w.heap.size:=World.block_lt_of_cell? w t ht0
 have hg2 : ((w.alloc (.cells #[.pointer (some t)] 184)).alloc (.cells #[.pointer (some ⟨5,184,none⟩),.pointer (some ⟨w.heap.size,0,none⟩),.int .u64 150] 177)).cell? ⟨0,0,none⟩ = some (.iface 164 (.agg #[.pointer (some ⟨5,44,none⟩)])):=by
  rw [World.cell?_alloc_lt _ _ ⟨0,0,none⟩ (by simp),World.cell?_alloc_lt _ _ ⟨0,0,none⟩ hlt]; exact hg
 have n5:=zhq ⟨w.heap.size,0,none⟩ t (((w.alloc (.cells #[.pointer (some t)] 184)).alloc (.cells #[.pointer (some ⟨5,184,none⟩),.pointer (some ⟨w.heap.size,0,none⟩),.int .u64 150] 177)).alloc (.cells #[.pointer (some ⟨5,184,none⟩),.pointer (some ⟨w.heap.size,0,none⟩),.int .u64 150] 177)) (by rw [World.cell?_alloc_lt _ _ ⟨w.heap.size,0,none⟩ (by simp; omega)]; simp)
 have n6:=zlX t ⟨w.heap.size + 1 + 1 + 1,0,none⟩ z old ((((w.alloc (.cells #[.pointer (some t)] 184)).alloc (.cells #[.pointer (some ⟨5,184,none⟩),.pointer (some ⟨w.heap.size,0,none⟩),.int .u64 150] 177)).alloc (.cells #[.pointer (some ⟨5,184,none⟩),.pointer (some ⟨w.heap.size,0,none⟩),.int .u64 150] 177)).alloc (.cells #[(.int .i64 z)] 47))
  (by rw [World.cell?_alloc_at _ _ _ _ (by simp)]; rfl)
  (by rw [World.cell?_alloc_lt _ _ t (by simp; omega),World.cell?_alloc_lt _ _ t (by simp; omega),World.cell?_alloc_lt _ _ t (by simp; omega),World.cell?_alloc_lt _ _ t htl]; exact ht0)
  (by rw [World.frozen?_alloc_old _ _ t (by simp; omega),World.frozen?_alloc_old _ _ t (by simp; omega),World.frozen?_alloc_old _ _ t (by simp; omega),World.frozen?_alloc_old _ _ t (Nat.ne_of_lt htl)]; exact hf0)
 go_enter Tryz.func69,Tryz.ntmps69
 go_wp2
 refine wp_loop_rounds 1 ?_
 rw [rounds_succ]
 go_wp2
 go_ret
 exact ⟨rfl,rfl⟩
theorem as_hit_f (z : Addr) (t : Addr) (old : Value) (w : World) (hg : w.cell? ⟨0,0,none⟩ = some (.iface 164 (.agg #[.pointer (some ⟨5,44,none⟩)]))) (ht0 : w.cell? t = some old) (hf0 : w.frozen? t = false) :
  Calls Tryz.prog 69 #[.iface 123 (.pointer (some z)),.iface 125 (.pointer (some t))] w fun e w' => e = .returned (.bool true) ∧ w' = ((((w.alloc (.cells #[.pointer (some t)] 125)).alloc (.cells #[.pointer (some ⟨5,125,none⟩),.pointer (some ⟨w.heap.size,0,none⟩),.int .u64 150] 177)).alloc (.cells #[.pointer (some ⟨5,125,none⟩),.pointer (some ⟨w.heap.size,0,none⟩),.int .u64 150] 177)).alloc (.cells #[(.pointer (some z))] 123)).setCell t (.pointer (some z)):=by
 have x_typeOf:=@run_callFunc_extern Tryz.prog 67 _ ReflectliteType.typeOf Tryz.func67 (by kernel_rfl) (by kernel_rfl) (by kernel_rfl) (by kernel_rfl)
 have x_valueOf:=@run_callFunc_extern Tryz.prog 112 _ (fun args => ReflectliteValue.unpack (args.getD 0 (.tuple #[]))) Tryz.func112 (by kernel_rfl) (by kernel_rfl) (by kernel_rfl) (by kernel_rfl)
 have x_type:=@run_callFunc_extern Tryz.prog 113 _ (ReflectliteValue.methodAny (ReflectliteValue.valueError "reflectlite.Value.Type" 0) (fun t _ _ _ => ReflectliteType.toType t)) Tryz.func113 (by kernel_rfl) (by kernel_rfl) (by kernel_rfl) (by kernel_rfl)
 have x_isNil:=@run_callFunc_extern Tryz.prog 114 _ (ReflectliteValue.method (ReflectliteValue.valueError "reflectlite.Value.IsNil" 0) ReflectliteValue.isNil) Tryz.func114 (by kernel_rfl) (by kernel_rfl) (by kernel_rfl) (by kernel_rfl)
 have x_kind:=@run_callFunc_extern Tryz.prog 190 _ (ReflectliteType.abiMethod fun t => do pure (.int .u8 (← Rtype.kind t))) Tryz.func190 (by kernel_rfl) (by kernel_rfl) (by kernel_rfl) (by kernel_rfl)
 have x_telem:=@run_callFunc_extern Tryz.prog 199 _ (ReflectliteType.method ReflectliteType.elem) Tryz.func199 (by kernel_rfl) (by kernel_rfl) (by kernel_rfl) (by kernel_rfl)
 have x_implements:=@run_callFunc_extern Tryz.prog 200 _ (ReflectliteType.relation "Implements" ReflectliteType.implements_) Tryz.func200 (by kernel_rfl) (by kernel_rfl) (by kernel_rfl) (by kernel_rfl)
 have x_assignable:=@run_callFunc_extern Tryz.prog 197 _ (ReflectliteType.relation "AssignableTo" ReflectliteType.assignableTo) Tryz.func197 (by kernel_rfl) (by kernel_rfl) (by kernel_rfl) (by kernel_rfl)
 have x_elem:=@run_callFunc_extern Tryz.prog 134 _ (ReflectliteValue.method (ReflectliteValue.valueError "reflectlite.Value.Elem" 0) ReflectliteValue.elem) Tryz.func134 (by kernel_rfl) (by kernel_rfl) (by kernel_rfl) (by kernel_rfl)
 have x_set:=@run_callFunc_extern Tryz.prog 135 _ ReflectliteValue.set Tryz.func135 (by kernel_rfl) (by kernel_rfl) (by kernel_rfl) (by kernel_rfl)
 have t0:=zhv
 have m1:=zcu
 have m2:=znF
 have m3:=as_val_f
 have m4:=zjQ
 have m5:=zim
 have m6:=zgv
 have m7:=zgu
 have m8:=zcZ
 have m9:=zik
 have n1:=zjO
 have n2:=zii
 have n3:=zjM
 have n4:=zhr ⟨w.heap.size,0,none⟩ t ((w.alloc (.cells #[.pointer (some t)] 125)).alloc (.cells #[.pointer (some ⟨5,125,none⟩),.pointer (some ⟨w.heap.size,0,none⟩),.int .u64 150] 177)) (by simp)
 have hlt : 0 < w.heap.size:=World.block_lt_of_cell? w ⟨0,0,none⟩ hg
 have htl : t.block < w.heap.size:=World.block_lt_of_cell? w t ht0
 have hg2 : ((w.alloc (.cells #[.pointer (some t)] 125)).alloc (.cells #[.pointer (some ⟨5,125,none⟩),.pointer (some ⟨w.heap.size,0,none⟩),.int .u64 150] 177)).cell? ⟨0,0,none⟩ = some (.iface 164 (.agg #[.pointer (some ⟨5,44,none⟩)])):=by
  rw [World.cell?_alloc_lt _ _ ⟨0,0,none⟩ (by simp),World.cell?_alloc_lt _ _ ⟨0,0,none⟩ hlt]; exact hg
 have n5:=zlR ⟨w.heap.size,0,none⟩ t (((w.alloc (.cells #[.pointer (some t)] 125)).alloc (.cells #[.pointer (some ⟨5,125,none⟩),.pointer (some ⟨w.heap.size,0,none⟩),.int .u64 150] 177)).alloc (.cells #[.pointer (some ⟨5,125,none⟩),.pointer (some ⟨w.heap.size,0,none⟩),.int .u64 150] 177)) (by rw [World.cell?_alloc_lt _ _ ⟨w.heap.size,0,none⟩ (by simp; omega)]; simp)
 have n6:=as_set_f t ⟨w.heap.size + 1 + 1 + 1,0,none⟩ z old ((((w.alloc (.cells #[.pointer (some t)] 125)).alloc (.cells #[.pointer (some ⟨5,125,none⟩),.pointer (some ⟨w.heap.size,0,none⟩),.int .u64 150] 177)).alloc (.cells #[.pointer (some ⟨5,125,none⟩),.pointer (some ⟨w.heap.size,0,none⟩),.int .u64 150] 177)).alloc (.cells #[(.pointer (some z))] 123))
  (by rw [World.cell?_alloc_at _ _ _ _ (by simp)]; rfl)
  (by rw [World.cell?_alloc_lt _ _ t (by simp; omega),World.cell?_alloc_lt _ _ t (by simp; omega),World.cell?_alloc_lt _ _ t (by simp; omega),World.cell?_alloc_lt _ _ t htl]; exact ht0)
  (by rw [World.frozen?_alloc_old _ _ t (by simp; omega),World.frozen?_alloc_old _ _ t (by simp; omega),World.frozen?_alloc_old _ _ t (by simp; omega),World.frozen?_alloc_old _ _ t (Nat.ne_of_lt htl)]; exact hf0)
 go_enter Tryz.func69,Tryz.ntmps69
 go_wp2
 refine wp_loop_rounds 1 ?_
 rw [rounds_succ]
 go_wp2
 go_ret
 exact ⟨rfl,rfl⟩
end Go.Proofs.YtfieheffipfahaaGreatDoor
