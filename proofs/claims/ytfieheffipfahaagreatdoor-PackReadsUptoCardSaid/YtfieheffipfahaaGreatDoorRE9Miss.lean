/- What this claim leans on. -/
import Derived.Test.YtfieheffipfahaaGreatDoorRE9Far
import Derived.Lib.IfaceEq
import Derived.Stop.IfaceNil
namespace Go.Proofs.YtfieheffipfahaaGreatDoor
open Go Go.RowKit
open Go.Extern.Stop Go.Stop Go.Extern
set_option maxHeartbeats 16000000
set_option linter.unusedVariables false
theorem zlS (v : Value) (xT : TypeId) (w : World) : (Instr.typeAssert (.iface 47 v) xT 207 true).run Tryz.prog w = .ok (.tuple #[.nilIface,.bool false]) w:=run_typeAssert_lacksB Tryz.underlying207 (by kernel_rfl) (by kernel_rfl) v xT w
theorem zlT (v : Value) (xT : TypeId) (w : World) : (Instr.typeAssert (.iface 47 v) xT 169 true).run Tryz.prog w = .ok (.tuple #[.nilIface,.bool false]) w:=run_typeAssert_lacksB Tryz.underlying169 (by kernel_rfl) (by kernel_rfl) v xT w
theorem zlU (v : Value) (xT : TypeId) (w : World) : (Instr.typeAssert (.iface 47 v) xT 171 true).run Tryz.prog w = .ok (.tuple #[.nilIface,.bool false]) w:=run_typeAssert_lacksB Tryz.underlying171 (by kernel_rfl) (by kernel_rfl) v xT w
theorem znK (z : Int) (t : Addr) (old : Value) (w : World) (hg : w.cell? ⟨0,0,none⟩ = some (.iface 164 (.agg #[.pointer (some ⟨5,44,none⟩)]))) (ht0 : w.cell? t = some old) :
  Calls Tryz.prog 69 #[.iface 47 (.int .i64 z),.iface 125 (.pointer (some t))] w fun e w' => e = .returned (.bool false) ∧ w' = (((w.alloc (.cells #[.pointer (some t)] 125)).alloc (.cells #[.pointer (some ⟨5,125,none⟩),.pointer (some ⟨w.heap.size,0,none⟩),.int .u64 150] 177)).alloc (.cells #[.pointer (some ⟨5,125,none⟩),.pointer (some ⟨w.heap.size,0,none⟩),.int .u64 150] 177)):=by
 have x_typeOf:=@run_callFunc_extern Tryz.prog 67 _ ReflectliteType.typeOf Tryz.func67 (by kernel_rfl) (by kernel_rfl) (by kernel_rfl) (by kernel_rfl)
 have x_valueOf:=@run_callFunc_extern Tryz.prog 112 _ (fun args => ReflectliteValue.unpack (args.getD 0 (.tuple #[]))) Tryz.func112 (by kernel_rfl) (by kernel_rfl) (by kernel_rfl) (by kernel_rfl)
 have x_type:=@run_callFunc_extern Tryz.prog 113 _ (ReflectliteValue.methodAny (ReflectliteValue.valueError "reflectlite.Value.Type" 0) (fun t _ _ _ => ReflectliteType.toType t)) Tryz.func113 (by kernel_rfl) (by kernel_rfl) (by kernel_rfl) (by kernel_rfl)
 have x_isNil:=@run_callFunc_extern Tryz.prog 114 _ (ReflectliteValue.method (ReflectliteValue.valueError "reflectlite.Value.IsNil" 0) ReflectliteValue.isNil) Tryz.func114 (by kernel_rfl) (by kernel_rfl) (by kernel_rfl) (by kernel_rfl)
 have x_kind:=@run_callFunc_extern Tryz.prog 190 _ (ReflectliteType.abiMethod fun t => do pure (.int .u8 (← Rtype.kind t))) Tryz.func190 (by kernel_rfl) (by kernel_rfl) (by kernel_rfl) (by kernel_rfl)
 have x_telem:=@run_callFunc_extern Tryz.prog 199 _ (ReflectliteType.method ReflectliteType.elem) Tryz.func199 (by kernel_rfl) (by kernel_rfl) (by kernel_rfl) (by kernel_rfl)
 have x_implements:=@run_callFunc_extern Tryz.prog 200 _ (ReflectliteType.relation "Implements" ReflectliteType.implements_) Tryz.func200 (by kernel_rfl) (by kernel_rfl) (by kernel_rfl) (by kernel_rfl)
 have x_assignable:=@run_callFunc_extern Tryz.prog 197 _ (ReflectliteType.relation "AssignableTo" ReflectliteType.assignableTo) Tryz.func197 (by kernel_rfl) (by kernel_rfl) (by kernel_rfl) (by kernel_rfl)
 have t0:=zfd
 have m1:=zcu
 have m2:=znH
 have m4:=zjQ
 have m5:=zim
 have m6:=zgv
 have m7:=zgu
 have m8:=zcZ
 have m9:=zik
 have n1:=zjO
 have n2:=zii
 have n3:=zjM
 have n4:=zhr ⟨w.heap.size,0,none⟩ t ((w.alloc (.cells #[.pointer (some t)] 125)).alloc (.cells #[.pointer (some ⟨5,125,none⟩),.pointer (some ⟨w.heap.size,0,none⟩),.int .u64 150] 177)) (by simp)
 have l1:=zlS
 have l2:=zlT
 have l3:=zlU
 have hlt : 0 < w.heap.size:=World.block_lt_of_cell? w ⟨0,0,none⟩ hg
 have hg2 : ((w.alloc (.cells #[.pointer (some t)] 125)).alloc (.cells #[.pointer (some ⟨5,125,none⟩),.pointer (some ⟨w.heap.size,0,none⟩),.int .u64 150] 177)).cell? ⟨0,0,none⟩ = some (.iface 164 (.agg #[.pointer (some ⟨5,44,none⟩)])):=by
  rw [World.cell?_alloc_lt _ _ ⟨0,0,none⟩ (by simp),World.cell?_alloc_lt _ _ ⟨0,0,none⟩ hlt]; exact hg
 go_enter Tryz.func69,Tryz.ntmps69
 go_wp2
 refine wp_loop_rounds 1 ?_
 rw [rounds_succ]
 go_wp2
 go_ret
 exact ⟨rfl,rfl⟩
end Go.Proofs.YtfieheffipfahaaGreatDoor
namespace Go.Proofs.YtfieheffipfahaaGreatDoor
open Go Go.RowKit
set_option maxHeartbeats 16000000
set_option linter.unusedVariables false
def zcK (w : World) (q r : Nat) (b : Bool) (e : Ending) (w' : World) : Prop:=∃ (A : oA9) (n c : Nat) (B : oA9) (m d : Nat),e = .returned (.tuple #[.agg #[.slice A n c],.agg #[.slice B m d],.bool b]) ∧ zaf w' q A n c ∧ zaf w' r B m d ∧ Below w.heap.size w w'
def zbI (w : World) (x : Nat) (b : Bool) (e : Ending) (w' : World) : Prop:=∃ (A : oA9) (n c : Nat),e = .returned (.tuple #[.agg #[.slice A n c],.bool b]) ∧ zaf w' x A n c ∧ Below w.heap.size w w'
def zgp (w : World) (q x : Nat) (b : Bool) (e : Ending) (w' : World) : Prop:=∃ (A : oA9) (n c : Nat),e = .returned (.tuple #[.agg #[.slice A n c],.int .u64 (x : Int),.bool b]) ∧ zaf w' q A n c ∧ Below w.heap.size w w'
structure QuotC : Prop where
 divMod : ∀ (x y : Nat) (A D : oA9) (n m c d : Nat) (w : World),zaf w x A n c → zaf w y D m d → n ≤ 1073741824 → m ≤ 1073741824 → y ≠ 0 → Calls Tryz.prog 141 #[.agg #[.slice A n c],.agg #[.slice D m d]] w (zcK w (x / y) (x % y) true)
 divModNo : ∀ (x y : Nat) (A D : oA9) (n m c d : Nat) (w : World),zaf w x A n c → zaf w y D m d → n ≤ 1073741824 → m ≤ 1073741824 → y = 0 → Calls Tryz.prog 141 #[.agg #[.slice A n c],.agg #[.slice D m d]] w (zcK w 0 0 false)
 div : ∀ (x y : Nat) (A D : oA9) (n m c d : Nat) (w : World),zaf w x A n c → zaf w y D m d → n ≤ 1073741824 → m ≤ 1073741824 → y ≠ 0 → Calls Tryz.prog 118 #[.agg #[.slice A n c],.agg #[.slice D m d]] w (zbI w (x / y) true)
 mod : ∀ (x y : Nat) (A D : oA9) (n m c d : Nat) (w : World),zaf w x A n c → zaf w y D m d → n ≤ 1073741824 → m ≤ 1073741824 → y ≠ 0 → Calls Tryz.prog 153 #[.agg #[.slice A n c],.agg #[.slice D m d]] w (zbI w (x % y) true)
 byWord : ∀ (x a : Nat) (A : oA9) (n c : Nat) (w : World),zaf w x A n c → n ≤ 1073741824 → a < 18446744073709551616 → a ≠ 0 → Calls Tryz.prog 90 #[.agg #[.slice A n c],.int .u64 a] w (zgp w (x / a) (x % a) true)
 byWordNo : ∀ (x : Nat) (A : oA9) (n c : Nat) (w : World),zaf w x A n c → n ≤ 1073741824 → Calls Tryz.prog 90 #[.agg #[.slice A n c],.int .u64 0] w (zgp w 0 0 false)
end Go.Proofs.YtfieheffipfahaaGreatDoor
namespace Go.Proofs.YtfieheffipfahaaGreatDoor
open Go Go.RowKit
open Go.RowKit Go.Extern.Stop Go.Stop Go.Extern
set_option maxHeartbeats 16000000
set_option linter.unusedVariables false
set_option linter.unusedSimpArgs false
def zdw (w : World) : Prop:=w.cell? ⟨0,0,none⟩ = some (.iface 164 (.agg #[.pointer (some ⟨5,44,none⟩)]))
theorem zdw.below {w w' : World} (h : zdw w) (hb : Below w.heap.size w w') : zdw w':=zad hb h
def zgY (w : World) (n : Int) (s : ByteArray) (k : Int) (fb : Nat) : Prop:=w.cell? ⟨fb,0,none⟩ = some (.string s) ∧ w.cell? ⟨fb,1,none⟩ = some (.int .i64 k) ∧ w.cell? ⟨fb,2,none⟩ = some (.iface 47 (.int .i64 n))
def zcm (w : World) (er : Er) (v : Value) : Prop:=match er with
 | .no => v = .nilIface
 | .bare n => v = .iface 47 (.int .i64 n)
 | .spot n s k => ∃ fb,v = .iface 123 (.pointer (some ⟨fb,0,none⟩)) ∧ zgY w n s k fb
theorem zgY.below {w w' : World} {n : Int} {s : ByteArray} {k : Int} {fb : Nat} (h : zgY w n s k fb) (hb : Below w.heap.size w w') : zgY w' n s k fb:=⟨zad hb h.1,zad hb h.2.1,zad hb h.2.2⟩
theorem zcm.below {w w' : World} {er : Er} {v : Value} (h : zcm w er v) (hb : Below w.heap.size w w') : zcm w' er v:=by
 cases er with
 | no => exact h
 | bare n => exact h
 | spot n s k => obtain ⟨fb,e,hs⟩:=h; exact ⟨fb,e,hs.below hb⟩
theorem zdD {w w' : World} {er : Er} {v : Value} {g : Nat} {t : TypeId} {cs : Array Value} (h : zcm w er v) (hk : Blk w g t cs) (hcs : NoU cs) (ho : zei g w w') : zcm w' er v:=by
 cases er with
 | no => exact h
 | bare n => exact h
 | spot n s k =>
   obtain ⟨fb,e,h1,h2,h3⟩:=h
   have hne : fb ≠ g:=fun hf => by
    subst hf
    have h4:=hk.cell 1
    rw [h2] at h4
    exact hcs _ (Array.mem_toList_iff.2 (Array.mem_of_getElem? h4.symm)) _ _ rfl
   exact ⟨fb,e,(ho.2 _ hne).trans h1,(ho.2 _ hne).trans h2,(ho.2 _ hne).trans h3⟩
def Er.named (er : Er) : Prop:=match er with | .spot _ s _ => s = zdF ∨ s = zef | _ => True
def Er.is (er : Er) : Bool:=match er with | .spot .. => true | _ => false
theorem zaJ (w : World) : (binOp .eql 44 .nilIface .nilIface).run Tryz.prog w = .ok (.bool true) w:=by kernel_rfl
theorem zaH (t : TypeId) (x : Value) (w : World) : (binOp .eql 44 (.iface t x) .nilIface).run Tryz.prog w = .ok (.bool false) w:=run_eql_iface_nil w 44 (by kernel_rfl) t x
theorem api_wrap (n : Int) (s : ByteArray) (k : Int) (w : World) :
  Calls Tryz.prog 56 #[.iface 47 (.int .i64 n),.string s,.int .i64 k] w fun e w' => ∃ v,e = .returned v ∧ zcm w' (.spot n s k) v ∧ Below w.heap.size w w':=by
 have h0:=zaH 47 (.int .i64 n)
 go_enter Tryz.func56,Tryz.ntmps56
 go_wp2
 go_ret
 obtain ⟨b1,b2,b3⟩:=zaz w 127 #[.string s,.int .i64 k,.iface 47 (.int .i64 n)]
 exact ⟨_,rfl,⟨_,rfl,b2.cell 0,b2.cell 1,b2.cell 2⟩,b1⟩
theorem zdL {b : Nat} {w w' : World} (o : Obj) (hb : b ≤ w.heap.size) (h : Below b w w') (hs : w.heap.size ≤ w'.heap.size) : Below b w (w'.alloc o):=h.alloc (Nat.le_trans hb hs) o
theorem far4 {b : Nat} {w : World} (hb : b ≤ w.heap.size) (o1 o2 o3 o4 : Obj) : Below b w ((((w.alloc o1).alloc o2).alloc o3).alloc o4) :=
 zdL _ hb (zdL _ hb (zdL _ hb (zdL _ hb (Below.refl _ w) (Nat.le_refl _)) (by simp)) (by simp; omega)) (by simp; omega)
theorem far3 {b : Nat} {w : World} (hb : b ≤ w.heap.size) (o1 o2 o3 : Obj) : Below b w (((w.alloc o1).alloc o2).alloc o3) :=
 zdL _ hb (zdL _ hb (zdL _ hb (Below.refl _ w) (Nat.le_refl _)) (by simp)) (by simp; omega)
def znx (w : World) (g : Nat) (b : Bool) (v : Value) (e : Ending) (w' : World) : Prop:=e = .returned (.bool b) ∧ w'.cell? ⟨g,0,none⟩ = some v ∧ Below g w w'
theorem znN {w : World} {g : Nat} {t : TypeId} {x : Value} (hk : Blk w g t #[x]) (u : Value) (o1 o2 o3 o4 : Obj) : (((((w.alloc o1).alloc o2).alloc o3).alloc o4).setCell ⟨g,0,none⟩ u).cell? ⟨g,0,none⟩ = some u ∧ Below g w (((((w.alloc o1).alloc o2).alloc o3).alloc o4).setCell ⟨g,0,none⟩ u):=by
 have hk4:=((((hk.alloc o1).alloc o2).alloc o3).alloc o4).set_ 0 u
 exact ⟨hk4.cell 0,(far4 (Nat.le_of_lt hk.lt) o1 o2 o3 o4).setCell (Nat.le_refl _) u⟩
theorem as_n (n : Int) (x : Value) (g : Nat) (w : World) (hg : zdw w) (hk : Blk w g 47 #[x]) :
  Calls Tryz.prog 69 #[.iface 47 (.int .i64 n),.iface 184 (.pointer (some ⟨g,0,none⟩))] w (znx w g true (.int .i64 n)):=by
 refine (as_hit_n n ⟨g,0,none⟩ _ w hg (hk.cell 0) (hk.frozen 0)).mono ?_
 rintro e w' ⟨rfl,rfl⟩
 have h:=znN hk (.int .i64 n)
 exact ⟨rfl,(h _ _ _ _).1,(h _ _ _ _).2⟩
theorem as_fn (n : Int) (s : ByteArray) (k : Int) (fb : Nat) (x : Value) (g : Nat) (w : World) (hg : zdw w) (hs : zgY w n s k fb) (hk : Blk w g 47 #[x]) :
  Calls Tryz.prog 69 #[.iface 123 (.pointer (some ⟨fb,0,none⟩)),.iface 184 (.pointer (some ⟨g,0,none⟩))] w (znx w g true (.int .i64 n)):=by
 refine (zpk n fb ⟨g,0,none⟩ _ w hg hs.2.2 (hk.cell 0) (hk.frozen 0)).mono ?_
 rintro e w' ⟨rfl,rfl⟩
 have h:=znN hk (.int .i64 n)
 exact ⟨rfl,(h _ _ _ _).1,(h _ _ _ _).2⟩
theorem as_f (fb : Nat) (x : Value) (g : Nat) (w : World) (hg : zdw w) (hk : Blk w g 123 #[x]) :
  Calls Tryz.prog 69 #[.iface 123 (.pointer (some ⟨fb,0,none⟩)),.iface 125 (.pointer (some ⟨g,0,none⟩))] w (znx w g true (.pointer (some ⟨fb,0,none⟩))):=by
 refine (as_hit_f ⟨fb,0,none⟩ ⟨g,0,none⟩ _ w hg (hk.cell 0) (hk.frozen 0)).mono ?_
 rintro e w' ⟨rfl,rfl⟩
 have h:=znN hk (.pointer (some ⟨fb,0,none⟩))
 exact ⟨rfl,(h _ _ _ _).1,(h _ _ _ _).2⟩
theorem as_nf (n : Int) (x : Value) (g : Nat) (w : World) (hg : zdw w) (hk : Blk w g 123 #[x]) :
  Calls Tryz.prog 69 #[.iface 47 (.int .i64 n),.iface 125 (.pointer (some ⟨g,0,none⟩))] w fun e w' => e = .returned (.bool false) ∧ Below g w w':=by
 refine (znK n ⟨g,0,none⟩ _ w hg (hk.cell 0)).mono ?_
 rintro e w' ⟨rfl,rfl⟩
 exact ⟨rfl,far3 (Nat.le_of_lt hk.lt) _ _ _⟩
theorem znE (er : Er) (v : Value) (w : World) (hE : zcm w er v) (hg : zdw w) :
  Calls Tryz.prog 77 #[v] w fun e w' => e = .returned (.int .i64 er.n) ∧ Below w.heap.size w w':=by
 obtain ⟨b1,b2,b3⟩:=zaz w 47 #[.int .i64 0]
 have hg1:=hg.below b1
 have hE1:=hE.below b1
 cases er with
 | no =>
   obtain rfl:=hE
   have h0:=zaJ
   clear b2 b3 hE1 hg hg1
   go_enter Tryz.func77,Tryz.ntmps77
   go_wp2
   go_ret
   exact ⟨rfl,b1⟩
 | bare n =>
   obtain rfl:=hE
   have h0:=zaH 47 (.int .i64 n)
   have HA:=lh9 (as_n n _ _ _ hg1 b2)
   have HB1:=lh9 b1
   clear b1 b2 b3 hE1 hg hg1
   go_enter Tryz.func77,Tryz.ntmps77
   go_wp2_with fail
   refine HA.out.mono ?_
   rintro e w' ⟨rfl,hc,hb⟩
   have hB:=HB1.out.trans hb
   clear HA hb HB1
   go_wp2
   go_ret
   exact ⟨rfl,hB⟩
 | spot n s k =>
   obtain ⟨fb,rfl,h1,h2,h3⟩:=hE
   obtain ⟨fb',e1,hs1⟩:=hE1
   cases e1
   have h0:=zaH 123 (.pointer (some ⟨fb,0,none⟩))
   have HA:=lh9 (as_fn n s k fb _ _ _ hg1 hs1 b2)
   have HB1:=lh9 b1
   clear b1 b2 b3 hg hg1 h1 h2 h3 hs1
   go_enter Tryz.func77,Tryz.ntmps77
   go_wp2_with fail
   refine HA.out.mono ?_
   rintro e w' ⟨rfl,hc,hb⟩
   have hB:=HB1.out.trans hb
   clear HA hb HB1
   go_wp2
   go_ret
   exact ⟨rfl,hB⟩
theorem zpj (er : Er) (v : Value) (w : World) (hE : zcm w er v) (hg : zdw w) :
  Calls Tryz.prog 25 #[v] w fun e w' => e = .returned (.tuple #[.string er.s,.int .i64 er.k,.bool er.is]) ∧ Below w.heap.size w w':=by
 obtain ⟨b1,b2,b3⟩:=zaz w 123 #[.pointer none]
 have hg1:=hg.below b1
 have hE1:=hE.below b1
 cases er with
 | no =>
   obtain rfl:=hE
   have h0:=zaJ
   clear b2 b3 hE1 hg hg1
   go_enter Tryz.func25,Tryz.ntmps25
   go_wp2
   refine bodyPost_ret (v:=.tuple #[.string { data:=#[] },.int .i64 0,.bool false]) (by simp [results,Tryz.results25,go_sem]) rfl ?_
   exact ⟨rfl,b1⟩
 | bare n =>
   obtain rfl:=hE
   have h0:=zaH 47 (.int .i64 n)
   have HA:=lh9 (as_nf n _ _ _ hg1 b2)
   have HB1:=lh9 b1
   clear b1 b2 b3 hE1 hg hg1
   go_enter Tryz.func25,Tryz.ntmps25
   go_wp2_with fail
   refine HA.out.mono ?_
   rintro e w' ⟨rfl,hb⟩
   have hB:=HB1.out.trans hb
   clear HA hb HB1
   go_wp2
   refine bodyPost_ret (v:=.tuple #[.string { data:=#[] },.int .i64 0,.bool false]) (by simp [results,Tryz.results25,go_sem]) rfl ?_
   exact ⟨rfl,hB⟩
 | spot n s k =>
   obtain ⟨fb,rfl,h1,h2,h3⟩:=hE
   have hl1:=World.block_lt_of_cell? w ⟨fb,0,none⟩ h1
   have h0:=zaH 123 (.pointer (some ⟨fb,0,none⟩))
   have HA:=lh9 (as_f fb _ _ _ hg1 b2)
   have HB1:=lh9 b1
   have HS : Hid (zgY w n s k fb):=⟨h1,h2,h3⟩
   clear b1 b2 b3 hg hg1 h1 h2 h3 hE1
   go_enter Tryz.func25,Tryz.ntmps25
   go_wp2_with fail
   refine HA.out.mono ?_
   rintro e w' ⟨rfl,hc,hb⟩
   have hB:=HB1.out.trans hb
   obtain ⟨c1,c2,c3⟩:=HS.out.below hB
   clear HA hb HB1 HS c3
   go_wp2_with fail
   go_region
   go_wp2
   refine bodyPost_ret (v:=.tuple #[.string s,.int .i64 k,.bool true]) (by simp [results,Tryz.results25,go_sem]) rfl ?_
   exact ⟨rfl,hB.drew⟩
end Go.Proofs.YtfieheffipfahaaGreatDoor
namespace Go.Proofs.YtfieheffipfahaaGreatDoor
open Go Go.RowKit
set_option maxHeartbeats 16000000
set_option linter.unusedVariables false
theorem Sz.len16' {K x : Nat} (h : Sz K x) : (dg 65536 x).length ≤ 4 * K:=zaT (by decide) _ _ (by rw [zgI]; exact h)
theorem Sz.holds' {K x : Nat} (h : Sz K x) {w : World} {A : oA9} {n c : Nat} (hw : zai w x A n c) : n ≤ 4 * K:=by rw [hw.len]; exact h.len16'
end Go.Proofs.YtfieheffipfahaaGreatDoor
namespace Go.Proofs.YtfieheffipfahaaGreatDoor
open Go Go.RowKit
set_option maxHeartbeats 16000000
set_option maxRecDepth 100000
set_option linter.unusedVariables false
def SaysYes (w : World) (e : Ending) (w' : World) : Prop:=e = .returned (.bool true) ∧ Below w.heap.size w w'
theorem zdH (x : Nat) (A D : oA9) (n c m d : Nat) (w : World) (hA : zaf w x A n c) (hD : zai w x D m d) (hn : n ≤ 1099511627776) (hm : m ≤ 1099511627776) :
  Calls Tryz.prog 62 #[.agg #[.slice A n c],.slice D m d] w (SaysYes w):=by
 have HW:=(fun w' (hb : Below w.heap.size w w') => zdh x A n c w' (hA.below hb) hn)
 have HR:=lh9 (fun w' (hb : Below w.heap.size w w') => zjm x D m d w' (hD.below hb) hm)
 have HI:=lh9 (fun w' (hb : Below w.heap.size w w') A1 c1 (h : zas w' w'.heap.size 1 A1 n (zaq .u64 (dg 18446744073709551616 x))) => ref2_is x D A1 m d n c1 w' (hD.below hb) hm h hn)
 have hlen:=hA.len
 unfold zfZ at HW HR
 rw [hlen] at HW HR
 have HWS:=lh9 HW
 have HRS:=lh9 HR
 clear HW HR hlen hA hD
 go_enter Tryz.func62,Tryz.ntmps62
 go_wp2_with fail
 obtain ⟨b1,b2,b5⟩:=zaz w 29 #[.slice A n c]
 refine (HWS.out _ b1).mono ?_
 rintro e w1 ⟨A1,c1,rfl,hr1,h1,⟨h2,_⟩,hb⟩
 have hB:=zac b1 hb
 have g1 : w1.cell? ⟨w.heap.size,0,none⟩ = some (.slice A n c):=zad hb (b2.cell 0)
 clear hb b1 b2 b5
 go_wp2_with fail
 refine (HI.out _ hB A1 c1 hr1).mono ?_
 rintro e w2 ⟨rfl,hb⟩
 have hB:=zac hB hb
 have g1:=zad hb g1
 clear hb hr1
 go_wp2_with fail
 refine (zcb x _ _ _ _).mono ?_
 rintro e w3 ⟨rfl,hb⟩
 have hB:=zac hB hb
 clear hb g1
 go_wp2_with fail
 refine (HRS.out _ hB).mono ?_
 rintro e w4 ⟨A2,c2,rfl,_,_,_,hb⟩
 have hB:=zac hB hb
 clear hb
 go_wp2
 go_ret
 exact ⟨rfl,hB⟩
end Go.Proofs.YtfieheffipfahaaGreatDoor
