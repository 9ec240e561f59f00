/- What this claim leans on. -/
import Derived.Test.YtfieheffipfahaaGreatDoorTP8C
import Derived.Test.YtfieheffipfahaaGreatDoorTBun6
import Derived.Lib.IfaceEq
import Derived.Stop.IfaceNil
namespace Go.Proofs.YtfieheffipfahaaGreatDoor
open Go Go.RowKit
set_option maxHeartbeats 16000000
set_option linter.unusedVariables false
def zch (w : World) (q r : Nat) (b : Bool) (e : Ending) (w' : World) : Prop := ∃ (A : oA9) (n c : Nat) (B : oA9) (m d : Nat),e = .returned (.tuple #[.agg #[.slice A n c],.agg #[.slice B m d],.bool b]) ∧ zaf w' q A n c ∧ zaf w' r B m d ∧ Below w.heap.size w w'
def zbd (w : World) (x : Nat) (b : Bool) (e : Ending) (w' : World) : Prop := ∃ (A : oA9) (n c : Nat),e = .returned (.tuple #[.agg #[.slice A n c],.bool b]) ∧ zaf w' x A n c ∧ Below w.heap.size w w'
def zfw (w : World) (q x : Nat) (b : Bool) (e : Ending) (w' : World) : Prop := ∃ (A : oA9) (n c : Nat),e = .returned (.tuple #[.agg #[.slice A n c],.int .u64 (x : Int),.bool b]) ∧ zaf w' q A n c ∧ Below w.heap.size w w'
structure QuotC : Prop where
 divMod : ∀ (x y : Nat) (A D : oA9) (n m c d : Nat) (w : World),zaf w x A n c → zaf w y D m d → n ≤ 1073741824 → m ≤ 1073741824 → y ≠ 0 → Calls Tryz.prog 141 #[.agg #[.slice A n c],.agg #[.slice D m d]] w (zch w (x / y) (x % y) true)
 divModNo : ∀ (x y : Nat) (A D : oA9) (n m c d : Nat) (w : World),zaf w x A n c → zaf w y D m d → n ≤ 1073741824 → m ≤ 1073741824 → y = 0 → Calls Tryz.prog 141 #[.agg #[.slice A n c],.agg #[.slice D m d]] w (zch w 0 0 false)
 div : ∀ (x y : Nat) (A D : oA9) (n m c d : Nat) (w : World),zaf w x A n c → zaf w y D m d → n ≤ 1073741824 → m ≤ 1073741824 → y ≠ 0 → Calls Tryz.prog 118 #[.agg #[.slice A n c],.agg #[.slice D m d]] w (zbd w (x / y) true)
 mod : ∀ (x y : Nat) (A D : oA9) (n m c d : Nat) (w : World),zaf w x A n c → zaf w y D m d → n ≤ 1073741824 → m ≤ 1073741824 → y ≠ 0 → Calls Tryz.prog 153 #[.agg #[.slice A n c],.agg #[.slice D m d]] w (zbd w (x % y) true)
 byWord : ∀ (x a : Nat) (A : oA9) (n c : Nat) (w : World),zaf w x A n c → n ≤ 1073741824 → a < 18446744073709551616 → a ≠ 0 → Calls Tryz.prog 90 #[.agg #[.slice A n c],.int .u64 a] w (zfw w (x / a) (x % a) true)
 byWordNo : ∀ (x : Nat) (A : oA9) (n c : Nat) (w : World),zaf w x A n c → n ≤ 1073741824 → Calls Tryz.prog 90 #[.agg #[.slice A n c],.int .u64 0] w (zfw w 0 0 false)
end Go.Proofs.YtfieheffipfahaaGreatDoor
namespace Go.Proofs.YtfieheffipfahaaGreatDoor
open Go Go.RowKit
open Go.RowKit Go.Extern.Stop Go.Stop Go.Extern
set_option maxHeartbeats 16000000
set_option linter.unusedVariables false
set_option linter.unusedSimpArgs false
def zcS (w : World) : Prop := w.cell? ⟨0,0,none⟩ = some (.iface 164 (.agg #[.pointer (some ⟨5,44,none⟩)]))
theorem zcS.below {w w' : World} (h : zcS w) (hb : Below w.heap.size w w') : zcS w' := zad hb h
def zge (w : World) (n : Int) (s : ByteArray) (k : Int) (fb : Nat) : Prop := w.cell? ⟨fb,0,none⟩ = some (.string s) ∧ w.cell? ⟨fb,1,none⟩ = some (.int .i64 k) ∧ w.cell? ⟨fb,2,none⟩ = some (.iface 47 (.int .i64 n))
def zbL (w : World) (er : Er) (v : Value) : Prop := match er with
 | .no => v = .nilIface
 | .bare n => v = .iface 47 (.int .i64 n)
 | .spot n s k => ∃ fb,v = .iface 123 (.pointer (some ⟨fb,0,none⟩)) ∧ zge w n s k fb
theorem zge.below {w w' : World} {n : Int} {s : ByteArray} {k : Int} {fb : Nat} (h : zge w n s k fb) (hb : Below w.heap.size w w') : zge w' n s k fb := ⟨zad hb h.1,zad hb h.2.1,zad hb h.2.2⟩
theorem zbL.below {w w' : World} {er : Er} {v : Value} (h : zbL w er v) (hb : Below w.heap.size w w') : zbL w' er v := by
 cases er with
 | no => exact h
 | bare n => exact h
 | spot n s k => obtain ⟨fb,e,hs⟩ := h; exact ⟨fb,e,hs.below hb⟩
theorem zgX {w w' : World} {er : Er} {v : Value} {g : Nat} {t : TypeId} {cs : Array Value} (h : zbL w er v) (hk : Blk w g t cs) (hcs : NoU cs) (ho : zej g w w') : zbL w' er v := by
 cases er with
 | no => exact h
 | bare n => exact h
 | spot n s k =>
   obtain ⟨fb,e,h1,h2,h3⟩ := h
   have hne : fb ≠ g := fun hf => by
    subst hf
    have h4 := hk.cell 1
    rw [h2] at h4
    exact hcs _ (Array.mem_toList_iff.2 (Array.mem_of_getElem? h4.symm)) _ _ rfl
   exact ⟨fb,e,(ho.2 _ hne).trans h1,(ho.2 _ hne).trans h2,(ho.2 _ hne).trans h3⟩
def Er.named (er : Er) : Prop := match er with | .spot _ s _ => s = sNum ∨ s = sDen | _ => True
def Er.is (er : Er) : Bool := match er with | .spot .. => true | _ => false
theorem zbe (w : World) : (binOp .eql 44 .nilIface .nilIface).run Tryz.prog w = .ok (.bool true) w := by kernel_rfl
theorem zaT (t : TypeId) (x : Value) (w : World) : (binOp .eql 44 (.iface t x) .nilIface).run Tryz.prog w = .ok (.bool false) w := run_eql_iface_nil w 44 (by kernel_rfl) t x
theorem api_wrap (n : Int) (s : ByteArray) (k : Int) (w : World) :
  Calls Tryz.prog 56 #[.iface 47 (.int .i64 n),.string s,.int .i64 k] w fun e w' => ∃ v,e = .returned v ∧ zbL w' (.spot n s k) v ∧ Below w.heap.size w w' := by
 have h0 := zaT 47 (.int .i64 n)
 go_enter Tryz.func56,Tryz.ntmps56
 go_wp2
 go_ret
 obtain ⟨b1,b2,b3⟩ := zaA w 127 #[.string s,.int .i64 k,.iface 47 (.int .i64 n)]
 exact ⟨_,rfl,⟨_,rfl,b2.cell 0,b2.cell 1,b2.cell 2⟩,b1⟩
theorem zdf {b : Nat} {w w' : World} (o : Obj) (hb : b ≤ w.heap.size) (h : Below b w w') (hs : w.heap.size ≤ w'.heap.size) : Below b w (w'.alloc o) := h.alloc (Nat.le_trans hb hs) o
theorem far4 {b : Nat} {w : World} (hb : b ≤ w.heap.size) (o1 o2 o3 o4 : Obj) : Below b w ((((w.alloc o1).alloc o2).alloc o3).alloc o4) :=
 zdf _ hb (zdf _ hb (zdf _ hb (zdf _ hb (Below.refl _ w) (Nat.le_refl _)) (by simp)) (by simp; omega)) (by simp; omega)
theorem far3 {b : Nat} {w : World} (hb : b ≤ w.heap.size) (o1 o2 o3 : Obj) : Below b w (((w.alloc o1).alloc o2).alloc o3) :=
 zdf _ hb (zdf _ hb (zdf _ hb (Below.refl _ w) (Nat.le_refl _)) (by simp)) (by simp; omega)
def zlF (w : World) (g : Nat) (b : Bool) (v : Value) (e : Ending) (w' : World) : Prop := e = .returned (.bool b) ∧ w'.cell? ⟨g,0,none⟩ = some v ∧ Below g w w'
theorem zlW {w : World} {g : Nat} {t : TypeId} {x : Value} (hk : Blk w g t #[x]) (u : Value) (o1 o2 o3 o4 : Obj) : (((((w.alloc o1).alloc o2).alloc o3).alloc o4).setCell ⟨g,0,none⟩ u).cell? ⟨g,0,none⟩ = some u ∧ Below g w (((((w.alloc o1).alloc o2).alloc o3).alloc o4).setCell ⟨g,0,none⟩ u) := by
 have hk4 := ((((hk.alloc o1).alloc o2).alloc o3).alloc o4).set_ 0 u
 exact ⟨hk4.cell 0,(far4 (Nat.le_of_lt hk.lt) o1 o2 o3 o4).setCell (Nat.le_refl _) u⟩
theorem as_n (n : Int) (x : Value) (g : Nat) (w : World) (hg : zcS w) (hk : Blk w g 47 #[x]) :
  Calls Tryz.prog 69 #[.iface 47 (.int .i64 n),.iface 184 (.pointer (some ⟨g,0,none⟩))] w (zlF w g true (.int .i64 n)) := by
 refine (as_hit_n n ⟨g,0,none⟩ _ w hg (hk.cell 0) (hk.frozen 0)).mono ?_
 rintro e w' ⟨rfl,rfl⟩
 have h := zlW hk (.int .i64 n)
 exact ⟨rfl,(h _ _ _ _).1,(h _ _ _ _).2⟩
theorem as_fn (n : Int) (s : ByteArray) (k : Int) (fb : Nat) (x : Value) (g : Nat) (w : World) (hg : zcS w) (hs : zge w n s k fb) (hk : Blk w g 47 #[x]) :
  Calls Tryz.prog 69 #[.iface 123 (.pointer (some ⟨fb,0,none⟩)),.iface 184 (.pointer (some ⟨g,0,none⟩))] w (zlF w g true (.int .i64 n)) := by
 refine (znD n fb ⟨g,0,none⟩ _ w hg hs.2.2 (hk.cell 0) (hk.frozen 0)).mono ?_
 rintro e w' ⟨rfl,rfl⟩
 have h := zlW hk (.int .i64 n)
 exact ⟨rfl,(h _ _ _ _).1,(h _ _ _ _).2⟩
theorem as_f (fb : Nat) (x : Value) (g : Nat) (w : World) (hg : zcS w) (hk : Blk w g 123 #[x]) :
  Calls Tryz.prog 69 #[.iface 123 (.pointer (some ⟨fb,0,none⟩)),.iface 125 (.pointer (some ⟨g,0,none⟩))] w (zlF w g true (.pointer (some ⟨fb,0,none⟩))) := by
 refine (as_hit_f ⟨fb,0,none⟩ ⟨g,0,none⟩ _ w hg (hk.cell 0) (hk.frozen 0)).mono ?_
 rintro e w' ⟨rfl,rfl⟩
 have h := zlW hk (.pointer (some ⟨fb,0,none⟩))
 exact ⟨rfl,(h _ _ _ _).1,(h _ _ _ _).2⟩
theorem as_nf (n : Int) (x : Value) (g : Nat) (w : World) (hg : zcS w) (hk : Blk w g 123 #[x]) :
  Calls Tryz.prog 69 #[.iface 47 (.int .i64 n),.iface 125 (.pointer (some ⟨g,0,none⟩))] w fun e w' => e = .returned (.bool false) ∧ Below g w w' := by
 refine (zlT n ⟨g,0,none⟩ _ w hg (hk.cell 0)).mono ?_
 rintro e w' ⟨rfl,rfl⟩
 exact ⟨rfl,far3 (Nat.le_of_lt hk.lt) _ _ _⟩
theorem zlM (er : Er) (v : Value) (w : World) (hE : zbL w er v) (hg : zcS w) :
  Calls Tryz.prog 77 #[v] w fun e w' => e = .returned (.int .i64 er.n) ∧ Below w.heap.size w w' := by
 obtain ⟨b1,b2,b3⟩ := zaA w 47 #[.int .i64 0]
 have hg1 := hg.below b1
 have hE1 := hE.below b1
 cases er with
 | no =>
   obtain rfl := hE
   have h0 := zbe
   clear b2 b3 hE1 hg hg1
   go_enter Tryz.func77,Tryz.ntmps77
   go_wp2
   go_ret
   exact ⟨rfl,b1⟩
 | bare n =>
   obtain rfl := hE
   have h0 := zaT 47 (.int .i64 n)
   have HA := lh9 (as_n n _ _ _ hg1 b2)
   have HB1 := lh9 b1
   clear b1 b2 b3 hE1 hg hg1
   go_enter Tryz.func77,Tryz.ntmps77
   go_wp2_with fail
   refine HA.out.mono ?_
   rintro e w' ⟨rfl,hc,hb⟩
   have hB := HB1.out.trans hb
   clear HA hb HB1
   go_wp2
   go_ret
   exact ⟨rfl,hB⟩
 | spot n s k =>
   obtain ⟨fb,rfl,h1,h2,h3⟩ := hE
   obtain ⟨fb',e1,hs1⟩ := hE1
   cases e1
   have h0 := zaT 123 (.pointer (some ⟨fb,0,none⟩))
   have HA := lh9 (as_fn n s k fb _ _ _ hg1 hs1 b2)
   have HB1 := lh9 b1
   clear b1 b2 b3 hg hg1 h1 h2 h3 hs1
   go_enter Tryz.func77,Tryz.ntmps77
   go_wp2_with fail
   refine HA.out.mono ?_
   rintro e w' ⟨rfl,hc,hb⟩
   have hB := HB1.out.trans hb
   clear HA hb HB1
   go_wp2
   go_ret
   exact ⟨rfl,hB⟩
theorem znC (er : Er) (v : Value) (w : World) (hE : zbL w er v) (hg : zcS w) :
  Calls Tryz.prog 25 #[v] w fun e w' => e = .returned (.tuple #[.string er.s,.int .i64 er.k,.bool er.is]) ∧ Below w.heap.size w w' := by
 obtain ⟨b1,b2,b3⟩ := zaA w 123 #[.pointer none]
 have hg1 := hg.below b1
 have hE1 := hE.below b1
 cases er with
 | no =>
   obtain rfl := hE
   have h0 := zbe
   clear b2 b3 hE1 hg hg1
   go_enter Tryz.func25,Tryz.ntmps25
   go_wp2
   refine bodyPost_ret (v := .tuple #[.string { data := #[] },.int .i64 0,.bool false]) (by simp [results,Tryz.results25,go_sem]) rfl ?_
   exact ⟨rfl,b1⟩
 | bare n =>
   obtain rfl := hE
   have h0 := zaT 47 (.int .i64 n)
   have HA := lh9 (as_nf n _ _ _ hg1 b2)
   have HB1 := lh9 b1
   clear b1 b2 b3 hE1 hg hg1
   go_enter Tryz.func25,Tryz.ntmps25
   go_wp2_with fail
   refine HA.out.mono ?_
   rintro e w' ⟨rfl,hb⟩
   have hB := HB1.out.trans hb
   clear HA hb HB1
   go_wp2
   refine bodyPost_ret (v := .tuple #[.string { data := #[] },.int .i64 0,.bool false]) (by simp [results,Tryz.results25,go_sem]) rfl ?_
   exact ⟨rfl,hB⟩
 | spot n s k =>
   obtain ⟨fb,rfl,h1,h2,h3⟩ := hE
   have hl1 := World.block_lt_of_cell? w ⟨fb,0,none⟩ h1
   have h0 := zaT 123 (.pointer (some ⟨fb,0,none⟩))
   have HA := lh9 (as_f fb _ _ _ hg1 b2)
   have HB1 := lh9 b1
   have HS : Hid (zge w n s k fb) := ⟨h1,h2,h3⟩
   clear b1 b2 b3 hg hg1 h1 h2 h3 hE1
   go_enter Tryz.func25,Tryz.ntmps25
   go_wp2_with fail
   refine HA.out.mono ?_
   rintro e w' ⟨rfl,hc,hb⟩
   have hB := HB1.out.trans hb
   obtain ⟨c1,c2,c3⟩ := HS.out.below hB
   clear HA hb HB1 HS c3
   go_wp2_with fail
   go_region
   go_wp2
   refine bodyPost_ret (v := .tuple #[.string s,.int .i64 k,.bool true]) (by simp [results,Tryz.results25,go_sem]) rfl ?_
   exact ⟨rfl,hB.drew⟩
end Go.Proofs.YtfieheffipfahaaGreatDoor
namespace Go.Proofs.YtfieheffipfahaaGreatDoor
open Go Go.RowKit
set_option maxHeartbeats 16000000
set_option linter.unusedVariables false
def zcA (w : World) (l : List Nat) (e : Ending) (w' : World) : Prop := ∃ v,e = .returned v ∧ w'.ownsRow w.heap.size 5 1 v l.length (zam .u8 l) ∧ Below w.heap.size w w'
end Go.Proofs.YtfieheffipfahaaGreatDoor
namespace Go.Proofs.YtfieheffipfahaaGreatDoor
open Go Go.RowKit
set_option maxHeartbeats 16000000
end Go.Proofs.YtfieheffipfahaaGreatDoor
namespace Go.Proofs.YtfieheffipfahaaGreatDoor
open Go Go.RowKit
set_option maxHeartbeats 16000000
set_option maxRecDepth 100000
set_option linter.unusedVariables false
set_option linter.unusedSimpArgs false
end Go.Proofs.YtfieheffipfahaaGreatDoor
namespace Go.Proofs.YtfieheffipfahaaGreatDoor
open Go Go.RowKit
set_option maxHeartbeats 16000000
theorem under_N : Tryz.prog.underlying 36 = some (.slice 3) := by kernel_rfl
end Go.Proofs.YtfieheffipfahaaGreatDoor
namespace Go.Proofs.YtfieheffipfahaaGreatDoor
open Go Go.RowKit
set_option maxHeartbeats 16000000
set_option maxRecDepth 100000
set_option linter.unusedVariables false
set_option linter.unusedSimpArgs false
theorem infoB8 : (Tryz.prog.info? 5).map (fun i => (i.zero,i.size,i.bytes)) = some (some (.int .u8 0),1,1) := by kernel_rfl
theorem zjy (x : Nat) (A : oA9) (n c : Nat) (w : World) (hA : zaf w x A n c) (hn : n ≤ 274877906944) :
  Calls Tryz.prog 88 #[.agg #[.slice A n c]] w (zcA w (zbi x)) := by
 obtain ⟨i0,hi0,hz0,hz1,hz2⟩ := info_parts infoB8
 have hsm : (dg 256 x).length ≤ 8 * n := by
  have h := zkx (K := n) (x := x) (by have := zaD (b := 18446744073709551616) (by decide) x; rwa [hA.len] at this)
  rwa [zdU] at h
 obtain ⟨hB,b2,b5⟩ := zaA w 29 #[.slice A n c]
 have HSZ := lh9 (zeu x A n c _ (hA.below hB) hn)
 have HW := lh9 (fun (k : Nat) w' (h : Below w.heap.size w w') => zey x A n c k w' (hA.below h))
 have HBO := lh9 (byte_of x)
 have HD := lh9 (fun k => (zbp (b := 256) (by decide) x).getD (by decide) k)
 obtain ⟨N,hN⟩ : ∃ m,(dg 256 x).length = m := ⟨_,rfl⟩
 have HDONE := lh9 (fun M (h : zcp x N N M) => zcp.done h hN.symm)
 have HBL : Hid ((zbi x).length = N) := by show _ = _; rw [zdU,hN]
 rw [hN] at HSZ hsm
 obtain ⟨Z,hZ⟩ : ∃ Z,madeCells (Value.cells (.int .u8 0)) (N * i0.size) = Z := ⟨_,rfl⟩
 have hmk : ∀ W : World,(Instr.makeSlice 42 (.int .i64 (N : Int)) (.int .i64 (N : Int))).run Tryz.prog W = .ok (.slice (some ⟨W.heap.size,0,none⟩) N N) (W.alloc (.cells Z 5)) := fun W => by
  rw [← hZ]; exact zaW _ _ i0 _ Tryz.underlying42 hi0 hz0 _ _ N N (Nat.le_refl _) (by rw [hz2]; omega) (by omega) W
 have HM : Hid (∀ W : World,zaX (W.alloc (.cells Z 5)) 5 W.heap.size N N (List.replicate N 0)) := fun W => by
  have h := zaX.made W 5 N (by unfold maxLen; omega)
  rw [← hZ,hz1,Nat.mul_one]
  exact h
 clear hA hN hZ
 go_enter Tryz.func88,Tryz.ntmps88
 go_wp2_with fail
 refine HSZ.out.mono ?_
 rintro e w1 ⟨rfl,hb⟩
 have hk := zae hb b2
 have hB1 := zac hB hb
 clear hb hB b2 b5 HSZ
 go_wp2
 clear hmk
 have hR := HM.out w1
 have hB2 := hB1.alloc hB1.size (.cells Z 5)
 have hk2 := hk.alloc (.cells Z 5)
 have hsz := hB1.size
 have hlt1 := hk.lt
 generalize w1.alloc (.cells Z 5) = W2 at *
 obtain ⟨r,hr⟩ : ∃ r,w1.heap.size = r := ⟨_,rfl⟩
 rw [hr] at hR hsz hlt1 ⊢
 have HF := lh9 (zcp.start x N)
 clear HM hr hk hB1
 go_loopg [10] (N + 1) (fun g i wr => ∃ (k : Nat) (L : List Nat),k ≤ N ∧ N < g + k ∧ i = .int .i64 k ∧ Hid (zcp x N k L) ∧ zaX wr 5 r N N L ∧ Below w.heap.size w wr ∧ Blk wr w.heap.size 29 #[.slice A n c])
 case atStart => exact ⟨0,_,Nat.zero_le _,by omega,rfl,HF,hR,hB2,hk2⟩
 case round =>
  clear HF hR hB2 hk2
  obtain ⟨k,L,hkN,hg,rfl,HF,hR,hB,hk⟩ := hrel
  have i1 : (0 : Int) ≤ (k : Int) := by omega
  by_cases hlt : k < N
  ·have i2 : (k : Int) < (N : Int) := by omega
   have HST := lh9 (HF.out.step hlt)
   have hbo := HBO.out k
   have hdl := HD.out k
   obtain ⟨d,hd⟩ : ∃ d,(dg 256 x).getD k 0 = d := ⟨_,rfl⟩
   rw [hd] at hbo hdl HST
   have g1 := hk.cell 0
   simp only [List.getElem?_toArray,List.getElem?_cons_zero] at g1
   obtain ⟨q,hq⟩ : ∃ q,k / 8 = q := ⟨_,rfl⟩
   obtain ⟨p,hp⟩ : ∃ q,k % 8 = q := ⟨_,rfl⟩
   have hp8 : p < 8 := by omega
   have HWQ := lh9 (HW.out q wr hB)
   have hwl := zbY x q
   rw [hq,hp] at hbo
   obtain ⟨v,hv⟩ : ∃ v,wd x q = v := ⟨_,rfl⟩
   rw [hv] at HWQ hwl hbo
   have hix : (N : Int) - 1 - (k : Int) = ((N - 1 - k : Nat) : Int) := by omega
   obtain ⟨j,hj⟩ : ∃ j,N - 1 - k = j := ⟨_,rfl⟩
   rw [hj] at HST hix
   have hjN : j < N := by omega
   have c1 := hR.cell j hjN
   have f1 := hR.frozen j
   have e1 : (k : Int) / 8 = (q : Int) := by omega
   have e2 : (k : Int) % 8 = (p : Int) := by omega
   have HBO2 := lh9 hbo
   have HP8 : p * 8 < 64 := by omega
   clear hbo hd hq hp hv hj
   go_wp2_with fail
   refine HWQ.out.mono ?_
   rintro e w3 ⟨rfl,hb⟩
   have hR := hR.keep hb
   have hk := zae hb hk
   have hB := zac hB hb
   have f1 := hR.frozen j
   have c1 := hR.cell j hjN
   have HR2 := lh9 (hR.set_ j d hjN)
   have HB2 := lh9 (hB.setCell (p := ⟨r,j,none⟩) hsz (.int .u8 (d : Int)))
   have HK2 := lh9 (hk.far (p := ⟨r,j,none⟩) (by show w.heap.size ≠ r; omega) (.int .u8 (d : Int)))
   have HV : Hid ((v : Int) / 2 ^ (p * 8) % 256 = (d : Int)) := by show _ = _; rw [HBO2.out,Nat.mul_comm 8 p]; simp
   have s1 : ((p : Int) * 8).toNat = p * 8 := by omega
   clear hb hR hk hB HWQ g1
   go_wp2
   go_roundg (N - k)
   case measure => omega
   case rel => exact ⟨k + 1,_,by omega,by omega,by go_num,HST,by rw [HV.out]; exact HR2.out,by rw [HV.out]; exact HB2.out,by rw [HV.out]; exact HK2.out⟩
  ·have hkN2 : k = N := by omega
   subst hkN2
   have HE := lh9 (HDONE.out _ HF.out)
   have hrow := hR.own hsz
   rw [HE.out] at hrow
   have HG : Hid (zcA w (zbi x) (.returned (.slice (some ⟨r,0,none⟩) k k)) wr) := ⟨_,rfl,by rw [HBL.out]; exact hrow,hB⟩
   clear hrow HE HDONE HBL hR hk HF hB
   go_wp2
   go_ret
   exact HG.out
end Go.Proofs.YtfieheffipfahaaGreatDoor
namespace Go.Proofs.YtfieheffipfahaaGreatDoor
open Go Go.RowKit
set_option maxHeartbeats 16000000
set_option linter.unusedVariables false
theorem zbf {P : Program} {f : FuncId} {args : Array Value} {w : World} {z v : Int} (e : z = v) (h : Calls P f args w (zdF w z)) : Calls P f args w fun e w' => e = .returned (.int .i64 v) ∧ Below w.heap.size w w' := by
 subst e; exact h
theorem zaO {P : Program} {f : FuncId} {args : Array Value} {w : World} {b t : Bool} (e : b = t) (h : Calls P f args w fun e w' => e = .returned (.bool b) ∧ Below w.heap.size w w') : Calls P f args w fun e w' => e = .returned (.bool t) ∧ Below w.heap.size w w' := by
 subst e; exact h
theorem zfL {T : World → Prop} (IC : IntC T) (x : Nat) (A : oA9) (n c : Nat) (w : World) (hT : T w) (h : zaf w x A n c) (hn : n ≤ 268435456) : Calls Tryz.prog 38 #[.bool false,.agg #[.slice A n c]] w (zbA w (x : Int)) :=
 IC.new false x A n c w hT h hn
def dOf (l : List Nat) : Nat := if dv 18446744073709551616 l = 0 then 1 else dv 18446744073709551616 l
theorem dOf_sz {K : Nat} {l : List Nat} (h : Sz K (dv 18446744073709551616 l)) (hK : 0 < K) : Sz K (dOf l) := by
 unfold dOf
 split
 ·exact zck hK
 ·exact h
def fOf (s : Bool) (l e : List Nat) : Rat := Rat.divInt (zOf s l) (dOf e : Int)
end Go.Proofs.YtfieheffipfahaaGreatDoor
