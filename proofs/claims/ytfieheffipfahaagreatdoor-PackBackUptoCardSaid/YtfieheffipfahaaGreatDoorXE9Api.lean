/- What this claim leans on. -/
import Derived.Test.YtfieheffipfahaaGreatDoorXD9Math
import Derived.Test.YtfieheffipfahaaGreatDoorXP8C
import Derived.Lib.IfaceEq
import Derived.Stop.IfaceNil
namespace Go.Proofs.YtfieheffipfahaaGreatDoor
open Go Go.RowKit
open Go.RowKit Go.Extern.Stop Go.Stop Go.Extern
set_option maxHeartbeats 16000000
set_option linter.unusedVariables false
set_option linter.unusedSimpArgs false
def zdg (w : World) : Prop := w.cell? ⟨0,0,none⟩ = some (.iface 164 (.agg #[.pointer (some ⟨5,44,none⟩)]))
theorem zdg.below {w w' : World} (h : zdg w) (hb : Below w.heap.size w w') : zdg w' := zab hb h
def zgm (w : World) (n : Int) (s : ByteArray) (k : Int) (fb : Nat) : Prop := w.cell? ⟨fb,0,none⟩ = some (.string s) ∧ w.cell? ⟨fb,1,none⟩ = some (.int .i64 k) ∧ w.cell? ⟨fb,2,none⟩ = some (.iface 47 (.int .i64 n))
def zbO (w : World) (er : Er) (v : Value) : Prop := match er with
 | .no => v = .nilIface
 | .bare n => v = .iface 47 (.int .i64 n)
 | .spot n s k => ∃ fb,v = .iface 123 (.pointer (some ⟨fb,0,none⟩)) ∧ zgm w n s k fb
theorem zgm.below {w w' : World} {n : Int} {s : ByteArray} {k : Int} {fb : Nat} (h : zgm w n s k fb) (hb : Below w.heap.size w w') : zgm w' n s k fb := ⟨zab hb h.1,zab hb h.2.1,zab hb h.2.2⟩
theorem zbO.below {w w' : World} {er : Er} {v : Value} (h : zbO w er v) (hb : Below w.heap.size w w') : zbO w' er v := by
 cases er with
 | no => exact h
 | bare n => exact h
 | spot n s k => obtain ⟨fb,e,hs⟩ := h; exact ⟨fb,e,hs.below hb⟩
theorem zdd {w w' : World} {er : Er} {v : Value} {g : Nat} {t : TypeId} {cs : Array Value} (h : zbO w er v) (hk : Blk w g t cs) (hcs : NoU cs) (ho : zfn g w w') : zbO w' er v := by
 cases er with
 | no => exact h
 | bare n => exact h
 | spot n s k =>
   obtain ⟨fb,e,h1,h2,h3⟩ := h
   have hne : fb ≠ g := fun hf => by
    subst hf
    have h4 := hk.cell 1
    rw [h2] at h4
    exact hcs _ (Array.mem_toList_iff.2 (Array.mem_of_getElem? h4.symm)) _ _ rfl
   exact ⟨fb,e,(ho.2 _ hne).trans h1,(ho.2 _ hne).trans h2,(ho.2 _ hne).trans h3⟩
def Er.named (er : Er) : Prop := match er with | .spot _ s _ => s = zdq ∨ s = zeh | _ => True
def Er.is (er : Er) : Bool := match er with | .spot .. => true | _ => false
def Er.has (er : Er) (m : Int) : Bool := match er with | .no => false | .bare n => decide (n = m) | .spot n _ _ => decide (n = m)
theorem zaF (w : World) : (binOp .eql 44 .nilIface .nilIface).run Tryz.prog w = .ok (.bool true) w := by kernel_rfl
theorem zaC (t : TypeId) (x : Value) (w : World) : (binOp .eql 44 (.iface t x) .nilIface).run Tryz.prog w = .ok (.bool false) w := run_eql_iface_nil w 44 (by kernel_rfl) t x
theorem zbO.ne {w0 : World} {er : Er} {v : Value} (h : zbO w0 er v) (hn : er ≠ .no) : ∃ t x,v = .iface t x := by
 cases er with
 | no => exact absurd rfl hn
 | bare n => exact ⟨_,_,h⟩
 | spot n s k => obtain ⟨fb,e,_⟩ := h; exact ⟨_,_,e⟩
theorem api_wrap (n : Int) (s : ByteArray) (k : Int) (w : World) :
  Calls Tryz.prog 56 #[.iface 47 (.int .i64 n),.string s,.int .i64 k] w fun e w' => ∃ v,e = .returned v ∧ zbO w' (.spot n s k) v ∧ Below w.heap.size w w' := by
 have h0 := zaC 47 (.int .i64 n)
 go_enter Tryz.func56,Tryz.ntmps56
 go_wp2
 go_ret
 obtain ⟨b1,b2,b3⟩ := zav w 127 #[.string s,.int .i64 k,.iface 47 (.int .i64 n)]
 exact ⟨_,rfl,⟨_,rfl,b2.cell 0,b2.cell 1,b2.cell 2⟩,b1⟩
theorem zdi {b : Nat} {w w' : World} (o : Obj) (hb : b ≤ w.heap.size) (h : Below b w w') (hs : w.heap.size ≤ w'.heap.size) : Below b w (w'.alloc o) := h.alloc (Nat.le_trans hb hs) o
theorem far4 {b : Nat} {w : World} (hb : b ≤ w.heap.size) (o1 o2 o3 o4 : Obj) : Below b w ((((w.alloc o1).alloc o2).alloc o3).alloc o4) :=
 zdi _ hb (zdi _ hb (zdi _ hb (zdi _ hb (Below.refl _ w) (Nat.le_refl _)) (by simp)) (by simp; omega)) (by simp; omega)
theorem far3 {b : Nat} {w : World} (hb : b ≤ w.heap.size) (o1 o2 o3 : Obj) : Below b w (((w.alloc o1).alloc o2).alloc o3) :=
 zdi _ hb (zdi _ hb (zdi _ hb (Below.refl _ w) (Nat.le_refl _)) (by simp)) (by simp; omega)
def zmd (w : World) (g : Nat) (b : Bool) (v : Value) (e : Ending) (w' : World) : Prop := e = .returned (.bool b) ∧ w'.cell? ⟨g,0,none⟩ = some v ∧ Below g w w'
theorem zms {w : World} {g : Nat} {t : TypeId} {x : Value} (hk : Blk w g t #[x]) (u : Value) (o1 o2 o3 o4 : Obj) : (((((w.alloc o1).alloc o2).alloc o3).alloc o4).setCell ⟨g,0,none⟩ u).cell? ⟨g,0,none⟩ = some u ∧ Below g w (((((w.alloc o1).alloc o2).alloc o3).alloc o4).setCell ⟨g,0,none⟩ u) := by
 have hk4 := ((((hk.alloc o1).alloc o2).alloc o3).alloc o4).set_ 0 u
 exact ⟨hk4.cell 0,(far4 (Nat.le_of_lt hk.lt) o1 o2 o3 o4).setCell (Nat.le_refl _) u⟩
theorem as_n (n : Int) (x : Value) (g : Nat) (w : World) (hg : zdg w) (hk : Blk w g 47 #[x]) :
  Calls Tryz.prog 69 #[.iface 47 (.int .i64 n),.iface 184 (.pointer (some ⟨g,0,none⟩))] w (zmd w g true (.int .i64 n)) := by
 refine (as_hit_n n ⟨g,0,none⟩ _ w hg (hk.cell 0) (hk.frozen 0)).mono ?_
 rintro e w' ⟨rfl,rfl⟩
 have h := zms hk (.int .i64 n)
 exact ⟨rfl,(h _ _ _ _).1,(h _ _ _ _).2⟩
theorem as_fn (n : Int) (s : ByteArray) (k : Int) (fb : Nat) (x : Value) (g : Nat) (w : World) (hg : zdg w) (hs : zgm w n s k fb) (hk : Blk w g 47 #[x]) :
  Calls Tryz.prog 69 #[.iface 123 (.pointer (some ⟨fb,0,none⟩)),.iface 184 (.pointer (some ⟨g,0,none⟩))] w (zmd w g true (.int .i64 n)) := by
 refine (znP n fb ⟨g,0,none⟩ _ w hg hs.2.2 (hk.cell 0) (hk.frozen 0)).mono ?_
 rintro e w' ⟨rfl,rfl⟩
 have h := zms hk (.int .i64 n)
 exact ⟨rfl,(h _ _ _ _).1,(h _ _ _ _).2⟩
theorem as_f (fb : Nat) (x : Value) (g : Nat) (w : World) (hg : zdg w) (hk : Blk w g 123 #[x]) :
  Calls Tryz.prog 69 #[.iface 123 (.pointer (some ⟨fb,0,none⟩)),.iface 125 (.pointer (some ⟨g,0,none⟩))] w (zmd w g true (.pointer (some ⟨fb,0,none⟩))) := by
 refine (as_hit_f ⟨fb,0,none⟩ ⟨g,0,none⟩ _ w hg (hk.cell 0) (hk.frozen 0)).mono ?_
 rintro e w' ⟨rfl,rfl⟩
 have h := zms hk (.pointer (some ⟨fb,0,none⟩))
 exact ⟨rfl,(h _ _ _ _).1,(h _ _ _ _).2⟩
theorem as_nf (n : Int) (x : Value) (g : Nat) (w : World) (hg : zdg w) (hk : Blk w g 123 #[x]) :
  Calls Tryz.prog 69 #[.iface 47 (.int .i64 n),.iface 125 (.pointer (some ⟨g,0,none⟩))] w fun e w' => e = .returned (.bool false) ∧ Below g w w' := by
 refine (zmp n ⟨g,0,none⟩ _ w hg (hk.cell 0)).mono ?_
 rintro e w' ⟨rfl,rfl⟩
 exact ⟨rfl,far3 (Nat.le_of_lt hk.lt) _ _ _⟩
theorem zmk (er : Er) (v : Value) (w : World) (hE : zbO w er v) (hg : zdg w) :
  Calls Tryz.prog 77 #[v] w fun e w' => e = .returned (.int .i64 er.n) ∧ Below w.heap.size w w' := by
 obtain ⟨b1,b2,b3⟩ := zav w 47 #[.int .i64 0]
 have hg1 := hg.below b1
 have hE1 := hE.below b1
 cases er with
 | no =>
   obtain rfl := hE
   have h0 := zaF
   clear b2 b3 hE1 hg hg1
   go_enter Tryz.func77,Tryz.ntmps77
   go_wp2
   go_ret
   exact ⟨rfl,b1⟩
 | bare n =>
   obtain rfl := hE
   have h0 := zaC 47 (.int .i64 n)
   have HA := lh9 (as_n n _ _ _ hg1 b2)
   have HB1 := lh9 b1
   clear b1 b2 b3 hE1 hg hg1
   go_enter Tryz.func77,Tryz.ntmps77
   go_wp2_with fail
   refine HA.out.mono ?_
   rintro e w' ⟨rfl,hc,hb⟩
   have hB := HB1.out.trans hb
   clear HA hb HB1
   go_wp2
   go_ret
   exact ⟨rfl,hB⟩
 | spot n s k =>
   obtain ⟨fb,rfl,h1,h2,h3⟩ := hE
   obtain ⟨fb',e1,hs1⟩ := hE1
   cases e1
   have h0 := zaC 123 (.pointer (some ⟨fb,0,none⟩))
   have HA := lh9 (as_fn n s k fb _ _ _ hg1 hs1 b2)
   have HB1 := lh9 b1
   clear b1 b2 b3 hg hg1 h1 h2 h3 hs1
   go_enter Tryz.func77,Tryz.ntmps77
   go_wp2_with fail
   refine HA.out.mono ?_
   rintro e w' ⟨rfl,hc,hb⟩
   have hB := HB1.out.trans hb
   clear HA hb HB1
   go_wp2
   go_ret
   exact ⟨rfl,hB⟩
theorem zgo (er : Er) (v : Value) (w : World) (hE : zbO w er v) (hg : zdg w) :
  Calls Tryz.prog 25 #[v] w fun e w' => e = .returned (.tuple #[.string er.s,.int .i64 er.k,.bool er.is]) ∧ Below w.heap.size w w' := by
 obtain ⟨b1,b2,b3⟩ := zav w 123 #[.pointer none]
 have hg1 := hg.below b1
 have hE1 := hE.below b1
 cases er with
 | no =>
   obtain rfl := hE
   have h0 := zaF
   clear b2 b3 hE1 hg hg1
   go_enter Tryz.func25,Tryz.ntmps25
   go_wp2
   refine bodyPost_ret (v := .tuple #[.string { data := #[] },.int .i64 0,.bool false]) (by simp [results,Tryz.results25,go_sem]) rfl ?_
   exact ⟨rfl,b1⟩
 | bare n =>
   obtain rfl := hE
   have h0 := zaC 47 (.int .i64 n)
   have HA := lh9 (as_nf n _ _ _ hg1 b2)
   have HB1 := lh9 b1
   clear b1 b2 b3 hE1 hg hg1
   go_enter Tryz.func25,Tryz.ntmps25
   go_wp2_with fail
   refine HA.out.mono ?_
   rintro e w' ⟨rfl,hb⟩
   have hB := HB1.out.trans hb
   clear HA hb HB1
   go_wp2
   refine bodyPost_ret (v := .tuple #[.string { data := #[] },.int .i64 0,.bool false]) (by simp [results,Tryz.results25,go_sem]) rfl ?_
   exact ⟨rfl,hB⟩
 | spot n s k =>
   obtain ⟨fb,rfl,h1,h2,h3⟩ := hE
   have hl1 := World.block_lt_of_cell? w ⟨fb,0,none⟩ h1
   have h0 := zaC 123 (.pointer (some ⟨fb,0,none⟩))
   have HA := lh9 (as_f fb _ _ _ hg1 b2)
   have HB1 := lh9 b1
   have HS : Hid (zgm w n s k fb) := ⟨h1,h2,h3⟩
   clear b1 b2 b3 hg hg1 h1 h2 h3 hE1
   go_enter Tryz.func25,Tryz.ntmps25
   go_wp2_with fail
   refine HA.out.mono ?_
   rintro e w' ⟨rfl,hc,hb⟩
   have hB := HB1.out.trans hb
   obtain ⟨c1,c2,c3⟩ := HS.out.below hB
   clear HA hb HB1 HS c3
   go_wp2_with fail
   go_region
   go_wp2
   refine bodyPost_ret (v := .tuple #[.string s,.int .i64 k,.bool true]) (by simp [results,Tryz.results25,go_sem]) rfl ?_
   exact ⟨rfl,hB.drew⟩
theorem isf_comp : (Tryz.prog.info? 47).map (·.comparable) = some true := by kernel_rfl
theorem isf_type (v : Value) (w : World) : (ReflectliteType.typeOf #[.iface 47 v]).run Tryz.prog w = .ok (.iface 164 (.agg #[.pointer (some ⟨5,47,none⟩)])) w := by kernel_rfl
theorem isf_cmp (w : World) : ((ReflectliteType.method fun t => do Rtype.noPackHeld "Comparable" t; (fun a => Value.bool a.comparable) <$> typeInfo t) #[.agg #[.pointer (some ⟨5,47,none⟩)]]).run Tryz.prog w = .ok (.bool true) w := by kernel_rfl
theorem isf_meth (v : Value) (w : World) : (Go.method 364 164 v "Comparable").run Tryz.prog w = .ok (198,v) w := by kernel_rfl
theorem isf_no (v : Value) (xT : TypeId) (w : World) : (Instr.typeAssert (.iface 47 v) xT 166 true).run Tryz.prog w = .ok (.tuple #[.nilIface,.bool false]) w := run_typeAssert_lacksB Tryz.underlying166 (by kernel_rfl) (by kernel_rfl) v xT w
theorem isf_fno (v : Value) (xT : TypeId) (w : World) : (Instr.typeAssert (.iface 123 v) xT 166 true).run Tryz.prog w = .ok (.tuple #[.nilIface,.bool false]) w := run_typeAssert_lacksB Tryz.underlying166 (by kernel_rfl) (by kernel_rfl) v xT w
theorem isf_eq (a b : Int) (w : World) : (binOp .eql 44 (.iface 47 (.int .i64 a)) (.iface 47 (.int .i64 b))).run Tryz.prog w = .ok (.bool (a == b)) w := Lib.run_eql_iface_int w a b Tryz.underlying44 isf_comp Tryz.underlying47
theorem isf_ne (v x : Value) (w : World) : (binOp .eql 44 (.iface 123 v) (.iface 47 x)).run Tryz.prog w = .ok (.bool false) w := run_eql_iface_types 123 47 v x Tryz.underlying44 (by decide) w
theorem zbv (er : Er) (v : Value) (m : Int) (w : World) (hE : zbO w er v) :
  Calls Tryz.prog 24 #[v,.iface 47 (.int .i64 m)] w fun e w' => e = .returned (.bool (er.has m)) ∧ w' = w := by
 have x_typeOf := @run_callFunc_extern Tryz.prog 67 _ ReflectliteType.typeOf Tryz.func67 (by kernel_rfl) (by kernel_rfl) (by kernel_rfl) (by kernel_rfl)
 have x_cmp := @run_callFunc_extern Tryz.prog 198 _ (ReflectliteType.method fun t => do Rtype.noPackHeld "Comparable" t; pure (.bool (← typeInfo t).comparable)) Tryz.func198 (by kernel_rfl) (by kernel_rfl) (by kernel_rfl) (by kernel_rfl)
 have tT := isf_type
 have cT := isf_cmp
 have mR := isf_meth
 have l1 := isf_no
 have l2 := isf_fno
 have l3 := zgG
 have l4 := zgH
 have l5 := zhw
 have mU := zhz
 have eq1 := isf_eq
 have eq2 := isf_ne
 have n0 := zaF
 have n1 := zaC
 cases er with
 | no =>
   obtain rfl := hE
   have eq3 : ∀ w,(binOp .eql 44 .nilIface (.iface 47 (.int .i64 m))).run Tryz.prog w = .ok (.bool false) w := fun w => run_eql_iface_nil_left (P := Tryz.prog) w 47 (.int .i64 m) Tryz.underlying44
   go_enter Tryz.func24,Tryz.ntmps24
   go_wp2
   go_ret
   exact ⟨rfl,rfl⟩
 | bare n =>
   obtain rfl := hE
   by_cases hn : n = m
   ·have hd : (n == m) = true := by rw [beq_iff_eq]; exact hn
    have hh : Er.has (.bare n) m = true := by show decide (n = m) = true; exact decide_eq_true hn
    rw [hh]
    clear hn hh
    go_enter Tryz.func24,Tryz.ntmps24
    go_wp2
    refine wp_loop_rounds 1 ?_
    rw [rounds_succ]
    go_wp2
    go_ret
    exact ⟨rfl,rfl⟩
   ·have hd : (n == m) = false := by rw [beq_eq_false_iff_ne]; exact hn
    have hh : Er.has (.bare n) m = false := by show decide (n = m) = false; exact decide_eq_false hn
    rw [hh]
    clear hn hh
    go_enter Tryz.func24,Tryz.ntmps24
    go_wp2
    refine wp_loop_rounds 1 ?_
    rw [rounds_succ]
    go_wp2
    go_ret
    exact ⟨rfl,rfl⟩
 | spot n s k =>
   obtain ⟨fb,rfl,h1,h2,h3⟩ := hE
   clear h1 h2
   by_cases hn : n = m
   ·have hd : (n == m) = true := by rw [beq_iff_eq]; exact hn
    have hh : Er.has (.spot n s k) m = true := by show decide (n = m) = true; exact decide_eq_true hn
    rw [hh]
    clear hn hh
    go_enter Tryz.func24,Tryz.ntmps24
    go_wp2
    refine wp_loop_rounds 2 ?_
    rw [rounds_succ]
    go_wp2
    rw [rounds_succ]
    go_wp2
    go_ret
    exact ⟨rfl,rfl⟩
   ·have hd : (n == m) = false := by rw [beq_eq_false_iff_ne]; exact hn
    have hh : Er.has (.spot n s k) m = false := by show decide (n = m) = false; exact decide_eq_false hn
    rw [hh]
    clear hn hh
    go_enter Tryz.func24,Tryz.ntmps24
    go_wp2
    refine wp_loop_rounds 2 ?_
    rw [rounds_succ]
    go_wp2
    rw [rounds_succ]
    go_wp2
    go_ret
    exact ⟨rfl,rfl⟩
end Go.Proofs.YtfieheffipfahaaGreatDoor
