/- What this claim leans on. -/
import Derived.Test.YtfieheffipfahaaGreatDoorTE9As
import Derived.Test.YtfieheffipfahaaGreatDoorTBunC
namespace Go.Proofs.YtfieheffipfahaaGreatDoor
open Go Go.RowKit
open Go.Extern.Stop Go.Stop Go.Extern
set_option maxHeartbeats 16000000
set_option linter.unusedVariables false
theorem zjq (v : Value) (xT : TypeId) (w : World) : (Instr.typeAssert (.iface 123 v) xT 207 true).run Tryz.prog w = .ok (.tuple #[.nilIface,.bool false]) w := run_typeAssert_lacksB Tryz.underlying207 (by kernel_rfl) (by kernel_rfl) v xT w
theorem zlR (v : Value) (xT : TypeId) (w : World) : (Instr.typeAssert (.iface 123 v) xT 169 true).run Tryz.prog w = .ok (.tuple #[.iface 123 v,.bool true]) w := run_typeAssert_hasB Tryz.underlying169 (by kernel_rfl) v xT w
theorem zlS (h : Value) (w : World) : (Go.method 364 123 h "Unwrap").run Tryz.prog w = .ok (195,h) w := by kernel_rfl
theorem znD (z : Int) (fb : Nat) (t : Addr) (old : Value) (w : World) (hg : w.cell? ⟨0,0,none⟩ = some (.iface 164 (.agg #[.pointer (some ⟨5,44,none⟩)]))) (hf : w.cell? ⟨fb,2,none⟩ = some (.iface 47 (.int .i64 z))) (ht0 : w.cell? t = some old) (hf0 : w.frozen? t = false) :
  Calls Tryz.prog 69 #[.iface 123 (.pointer (some ⟨fb,0,none⟩)),.iface 184 (.pointer (some t))] w fun e w' => e = .returned (.bool true) ∧ w' = ((((w.alloc (.cells #[.pointer (some t)] 184)).alloc (.cells #[.pointer (some ⟨5,184,none⟩),.pointer (some ⟨w.heap.size,0,none⟩),.int .u64 150] 177)).alloc (.cells #[.pointer (some ⟨5,184,none⟩),.pointer (some ⟨w.heap.size,0,none⟩),.int .u64 150] 177)).alloc (.cells #[.int .i64 z] 47)).setCell t (.int .i64 z) := by
 have x_typeOf := @run_callFunc_extern Tryz.prog 67 _ ReflectliteType.typeOf Tryz.func67 (by kernel_rfl) (by kernel_rfl) (by kernel_rfl) (by kernel_rfl)
 have x_valueOf := @run_callFunc_extern Tryz.prog 112 _ (fun args => ReflectliteValue.unpack (args.getD 0 (.tuple #[]))) Tryz.func112 (by kernel_rfl) (by kernel_rfl) (by kernel_rfl) (by kernel_rfl)
 have x_type := @run_callFunc_extern Tryz.prog 113 _ (ReflectliteValue.methodAny (ReflectliteValue.valueError "reflectlite.Value.Type" 0) (fun t _ _ _ => ReflectliteType.toType t)) Tryz.func113 (by kernel_rfl) (by kernel_rfl) (by kernel_rfl) (by kernel_rfl)
 have x_isNil := @run_callFunc_extern Tryz.prog 114 _ (ReflectliteValue.method (ReflectliteValue.valueError "reflectlite.Value.IsNil" 0) ReflectliteValue.isNil) Tryz.func114 (by kernel_rfl) (by kernel_rfl) (by kernel_rfl) (by kernel_rfl)
 have x_kind := @run_callFunc_extern Tryz.prog 190 _ (ReflectliteType.abiMethod fun t => do pure (.int .u8 (← Rtype.kind t))) Tryz.func190 (by kernel_rfl) (by kernel_rfl) (by kernel_rfl) (by kernel_rfl)
 have x_telem := @run_callFunc_extern Tryz.prog 199 _ (ReflectliteType.method ReflectliteType.elem) Tryz.func199 (by kernel_rfl) (by kernel_rfl) (by kernel_rfl) (by kernel_rfl)
 have x_implements := @run_callFunc_extern Tryz.prog 200 _ (ReflectliteType.relation "Implements" ReflectliteType.implements_) Tryz.func200 (by kernel_rfl) (by kernel_rfl) (by kernel_rfl) (by kernel_rfl)
 have x_assignable := @run_callFunc_extern Tryz.prog 197 _ (ReflectliteType.relation "AssignableTo" ReflectliteType.assignableTo) Tryz.func197 (by kernel_rfl) (by kernel_rfl) (by kernel_rfl) (by kernel_rfl)
 have x_elem := @run_callFunc_extern Tryz.prog 134 _ (ReflectliteValue.method (ReflectliteValue.valueError "reflectlite.Value.Elem" 0) ReflectliteValue.elem) Tryz.func134 (by kernel_rfl) (by kernel_rfl) (by kernel_rfl) (by kernel_rfl)
 have x_set := @run_callFunc_extern Tryz.prog 135 _ ReflectliteValue.set Tryz.func135 (by kernel_rfl) (by kernel_rfl) (by kernel_rfl) (by kernel_rfl)
 have t0 := zes
 have t1 := zgw
 have m1 := zbU
 have m2 := zhk
 have m2' := zlP
 have m3 := zkt
 have m4 := ziB
 have m5 := zhq
 have m6 := zfD
 have m7 := zfC
 have m8 := zcr
 have m9 := zho
 have n1 := ziz
 have n2 := zhm
 have n3 := zix
 have l1 := zjq
 have l2 := zlR
 have l3 := zlS
 have n4 := zgt ⟨w.heap.size,0,none⟩ t ((w.alloc (.cells #[.pointer (some t)] 184)).alloc (.cells #[.pointer (some ⟨5,184,none⟩),.pointer (some ⟨w.heap.size,0,none⟩),.int .u64 150] 177)) (by simp)
 have hlt : 0 < w.heap.size := World.block_lt_of_cell? w ⟨0,0,none⟩ hg
 have htl : t.block < w.heap.size := World.block_lt_of_cell? w t ht0
 have hfl : fb < w.heap.size := World.block_lt_of_cell? w ⟨fb,2,none⟩ hf
 have hg2 : ((w.alloc (.cells #[.pointer (some t)] 184)).alloc (.cells #[.pointer (some ⟨5,184,none⟩),.pointer (some ⟨w.heap.size,0,none⟩),.int .u64 150] 177)).cell? ⟨0,0,none⟩ = some (.iface 164 (.agg #[.pointer (some ⟨5,44,none⟩)])) := by
  rw [World.cell?_alloc_lt _ _ ⟨0,0,none⟩ (by simp),World.cell?_alloc_lt _ _ ⟨0,0,none⟩ hlt]; exact hg
 have hf2 : (((w.alloc (.cells #[.pointer (some t)] 184)).alloc (.cells #[.pointer (some ⟨5,184,none⟩),.pointer (some ⟨w.heap.size,0,none⟩),.int .u64 150] 177)).alloc (.cells #[.pointer (some ⟨5,184,none⟩),.pointer (some ⟨w.heap.size,0,none⟩),.int .u64 150] 177)).cell? ⟨fb,2,none⟩ = some (.iface 47 (.int .i64 z)) := by
  rw [World.cell?_alloc_lt _ _ ⟨fb,2,none⟩ (by simp; omega),World.cell?_alloc_lt _ _ ⟨fb,2,none⟩ (by simp; omega),World.cell?_alloc_lt _ _ ⟨fb,2,none⟩ hfl]; exact hf
 have n5 := zgr ⟨w.heap.size,0,none⟩ t (((w.alloc (.cells #[.pointer (some t)] 184)).alloc (.cells #[.pointer (some ⟨5,184,none⟩),.pointer (some ⟨w.heap.size,0,none⟩),.int .u64 150] 177)).alloc (.cells #[.pointer (some ⟨5,184,none⟩),.pointer (some ⟨w.heap.size,0,none⟩),.int .u64 150] 177)) (by rw [World.cell?_alloc_lt _ _ ⟨w.heap.size,0,none⟩ (by simp; omega)]; simp)
 have n6 := zks t ⟨w.heap.size + 1 + 1 + 1,0,none⟩ z old ((((w.alloc (.cells #[.pointer (some t)] 184)).alloc (.cells #[.pointer (some ⟨5,184,none⟩),.pointer (some ⟨w.heap.size,0,none⟩),.int .u64 150] 177)).alloc (.cells #[.pointer (some ⟨5,184,none⟩),.pointer (some ⟨w.heap.size,0,none⟩),.int .u64 150] 177)).alloc (.cells #[.int .i64 z] 47))
  (by rw [World.cell?_alloc_at _ _ _ _ (by simp)]; rfl)
  (by rw [World.cell?_alloc_lt _ _ t (by simp; omega),World.cell?_alloc_lt _ _ t (by simp; omega),World.cell?_alloc_lt _ _ t (by simp; omega),World.cell?_alloc_lt _ _ t htl]; exact ht0)
  (by rw [World.frozen?_alloc_old _ _ t (by simp; omega),World.frozen?_alloc_old _ _ t (by simp; omega),World.frozen?_alloc_old _ _ t (by simp; omega),World.frozen?_alloc_old _ _ t (Nat.ne_of_lt htl)]; exact hf0)
 go_enter Tryz.func69,Tryz.ntmps69
 go_wp2
 refine wp_loop_rounds 2 ?_
 rw [rounds_succ]
 go_wp2
 rw [rounds_succ]
 go_wp2
 go_ret
 exact ⟨rfl,rfl⟩
end Go.Proofs.YtfieheffipfahaaGreatDoor
namespace Go.Proofs.YtfieheffipfahaaGreatDoor
open Go Go.RowKit
set_option maxHeartbeats 16000000
set_option linter.unusedVariables false
def zbt (x : Nat) : Nat := (dg 256 x).length
theorem zdh (x : Nat) : (zbi x).length = zbt x := zdU x
def zcm (x : Nat) : List Nat := zbt x :: zbi x
def zct (r : Rat) : Nat := if r = 0 then 0 else (if r.den = 1 then 0 else 2) + (if 0 < r.num then 1 else 2)
def zhv (r : Rat) : List Nat := if r.den = 1 then [] else zcm r.den
def numL (r : Rat) : List Nat := if r = 0 then [] else zcm r.num.natAbs
def zgC (r : Rat) : List Nat := zct r :: (zhv r ++ numL r)
inductive Er where
 | no : Er
 | bare : Int → Er
 | spot : Int → ByteArray → Int → Er
def Er.n : Er → Int | .no => 0 | .bare n => n | .spot n _ _ => n
def Er.s : Er → ByteArray | .spot _ s _ => s | _ => { data := #[] }
def Er.k : Er → Int | .spot _ _ k => k | _ => 0
def sNum : ByteArray := { data := #[110,117,109,98,101,114] }
def sDen : ByteArray := { data := #[100,105,118,105,115,111,114] }
def sg9 (s : Bool) (x : Nat) : Int := if s then -(x : Int) else (x : Int)
theorem znm (s : Bool) (x : Nat) : (sg9 s x).natAbs = x := by unfold sg9; split <;> omega
def zdZ (l : List Nat) (k : Nat) : List Nat := (l.drop (k + 1)).take (l.getD k 0)
def zbG (l : List Nat) (k : Nat) : Int := if l.length ≤ k + l.getD k 0 then 90 else if zca (zdZ l k) = true ∧ zeL (zdZ l k) ≠ 0 then 0 else 91
def zaK (l : List Nat) (k : Nat) : Nat := zeL (zdZ l k)
def zaR (l : List Nat) (k : Nat) : Nat := k + 1 + l.getD k 0
theorem zkV (l : List Nat) (k : Nat) : zdZ (l.drop k) 0 = zdZ l k := by
 unfold zdZ
 rw [List.drop_drop,List.getD_eq_getElem?_getD,List.getElem?_drop,← List.getD_eq_getElem?_getD]; rfl
theorem zhF (l : List Nat) (k : Nat) : (l.drop k).getD 0 0 = l.getD k 0 := by
 rw [List.getD_eq_getElem?_getD,List.getElem?_drop,← List.getD_eq_getElem?_getD]; rfl
theorem zfr {l : List Nat} {k : Nat} (hk : k ≤ l.length) : zbG (l.drop k) 0 = zbG l k := by
 unfold zbG
 rw [zkV,zhF,List.length_drop]
 by_cases h : l.length ≤ k + l.getD k 0
 ·rw [if_pos h,if_pos (by omega)]
 ·rw [if_neg h,if_neg (by omega)]
theorem zmL (l : List Nat) (k : Nat) : zaK (l.drop k) 0 = zaK l k := by unfold zaK; rw [zkV]
theorem zmr {r : Rat} (h0 : r ≠ 0) : r.num.natAbs ≠ 0 := fun h => h0 ((Rat.num_eq_zero).1 (by omega))
def zdM (r : Rat) : List UInt8 := zcx r.num ++ (if r.den = 1 then [] else 47 :: zbr r.den)
def zbh (s : List UInt8) : List UInt8 := s.takeWhile (· != 47)
def zcV (s : List UInt8) : List UInt8 := s.dropWhile (· != 47)
def zcW (s : List UInt8) : List UInt8 := (zcV s).drop 1
theorem zdb (s : List UInt8) : zbh s ++ zcV s = s := List.takeWhile_append_dropWhile
end Go.Proofs.YtfieheffipfahaaGreatDoor
namespace Go.Proofs.YtfieheffipfahaaGreatDoor
open Go Go.RowKit
set_option maxHeartbeats 16000000
set_option maxRecDepth 100000
set_option linter.unusedVariables false
theorem zcf (x : Nat) (A : oA9) (n c : Nat) (w : World) (h : zaf w x A n c) (hn : n ≤ 1099511627776) :
  Calls Tryz.prog 75 #[.agg #[.slice A n c]] w (zem w n (zam .u64 (dg 18446744073709551616 x))) := by
 obtain ⟨hr,h1,h2⟩ := h
 have hlen := hr.len_
 have C : ∀ o,Calls Tryz.prog 78 #[.slice A n c] (w.alloc o) (zem w n (zam .u64 (dg 18446744073709551616 x))) := fun o => by
  have hro := ((hr.alloc (Nat.le_refl _) o).more (B' := (w.alloc o).heap.size) (by simp))
  rcases A with _ | ad
  ·have hn0 : n = 0 := by
    rcases Nat.eq_zero_or_pos n with h | h
    ·exact h
    ·obtain ⟨ad,e,_⟩ := hr.2 h
     cases e
   subst hn0
   have hl : zam .u64 (dg 18446744073709551616 x) = [] := by rw [List.eq_nil_of_length_eq_zero hlen]; rfl
   rw [hl]
   exact (zik c _).mono fun e w' ⟨he,hw⟩ => ⟨_,he,World.ownsRow_nil _ _ _ _,by rw [← hw]; exact (Below.refl _ w).alloc (Nat.le_refl _) o⟩
  ·refine (zfd ad n c _ (w.alloc o) hro hn).mono fun e w' ⟨v,he,ho,hb⟩ => ?_
   refine ⟨v,he,⟨ho.1,?_⟩,((Below.refl _ w).alloc (Nat.le_refl _) o).trans (hb.mono (by simp))⟩
   rcases ho.2 with h | ⟨g,cap,cur,e1,e2,e3⟩
   ·exact .inl h
   ·exact .inr ⟨g,cap,cur,e1,Nat.le_trans (by simp) e2,e3⟩
 obtain ⟨L,hL⟩ : ∃ L,zam .u64 (dg 18446744073709551616 x) = L := ⟨_,rfl⟩
 rw [hL] at C ⊢
 have HC := lh9 C
 clear C hr hlen hL
 go_enter Tryz.func75,Tryz.ntmps75
 go_wp2_with fail
 refine (HC.out _).mono ?_
 intro e w1 hg
 have G := lh9 hg
 obtain ⟨v,rfl,_,_⟩ := hg
 go_wp2
 go_ret
 exact G.out
end Go.Proofs.YtfieheffipfahaaGreatDoor
namespace Go.Proofs.YtfieheffipfahaaGreatDoor
open Go Go.RowKit
set_option maxHeartbeats 16000000
set_option linter.unusedVariables false
def zaq (w : World) (t : TypeId) (g cap n : Nat) (L : List Nat) : Prop :=
 ∃ cur,Blk w g t cur ∧ n ≤ cap ∧ cap ≤ maxLen ∧ cur.size = cap ∧ L.length = n ∧ cur.toList.take n = zam .u64 L
section
variable {w w' : World} {t : TypeId} {g cap n : Nat} {L : List Nat}
theorem zaq.len (h : zaq w t g cap n L) : L.length = n := by obtain ⟨_,_,_,_,_,h,_⟩ := h; exact h
theorem zaq.room (h : zaq w t g cap n L) : n ≤ cap ∧ cap ≤ maxLen := by obtain ⟨_,_,h,h2,_⟩ := h; exact ⟨h,h2⟩
theorem zaq.lt (h : zaq w t g cap n L) : g < w.heap.size := by obtain ⟨_,h,_⟩ := h; exact h.lt
theorem zco (k : IntKind) (l : List Nat) (i : Nat) (h : i < l.length) : (zam k l)[i]? = some (.int k (l.getD i 0 : Nat)) := by
 simp [zam,List.getD,List.getElem?_eq_getElem h]
theorem zaq.cell (h : zaq w t g cap n L) (k : Nat) (hk : k < n) : w.cell? ⟨g,k,none⟩ = some (.int .u64 (L.getD k 0 : Nat)) := by
 obtain ⟨cur,hb,h1,h2,h3,h4,h5⟩ := h
 rw [hb.cell k,← Array.getElem?_toList,← zco .u64 L k (by omega),← h5,List.getElem?_take,if_pos hk]
theorem zaq.frozen (h : zaq w t g cap n L) (k : Nat) : w.frozen? ⟨g,k,none⟩ = false := by
 obtain ⟨cur,hb,_⟩ := h
 exact hb.frozen k
theorem zaq.set_ (h : zaq w t g cap n L) (k d : Nat) (hk : k < n) : zaq (w.setCell ⟨g,k,none⟩ (.int .u64 (d : Int))) t g cap n (L.set k d) := by
 obtain ⟨cur,hb,h1,h2,h3,h4,h5⟩ := h
 refine ⟨_,hb.set_ k _,h1,h2,by simpa using h3,by simpa using h4,?_⟩
 rw [Array.toList_setIfInBounds,List.take_set,h5]
 unfold zam
 rw [List.map_set]
theorem zaq.below {B : Nat} (h : zaq w t g cap n L) (hb : Below B w w') (hg : g < B) : zaq w' t g cap n L := by
 obtain ⟨cur,h0,h1⟩ := h
 exact ⟨cur,h0.below hb hg,h1⟩
theorem zaq.keep (h : zaq w t g cap n L) (hb : Below w.heap.size w w') : zaq w' t g cap n L := h.below hb h.lt
theorem zaq.drew (h : zaq w t g cap n L) : zaq w.drew t g cap n L := h
theorem zaq.alloc (h : zaq w t g cap n L) (o : Obj) : zaq (w.alloc o) t g cap n L := by
 obtain ⟨cur,h0,h1⟩ := h
 exact ⟨cur,h0.alloc o,h1⟩
theorem zaq.far (h : zaq w t g cap n L) {p : Addr} (hp : g ≠ p.block) (u : Value) : zaq (w.setCell p u) t g cap n L := by
 obtain ⟨cur,h0,h1⟩ := h
 exact ⟨cur,h0.far hp u,h1⟩
theorem zaq.reads (h : zaq w t g cap n L) : zan w w.heap.size 1 (some ⟨g,0,none⟩) n (zam .u64 L) := by
 have hl := h.lt
 have hc := h.cell
 have hn := h.len
 refine ⟨by rw [zat]; omega,fun _ => ⟨_,rfl,hl,fun j u hu => ?_⟩⟩
 have hj : j < L.length := by
  rcases Nat.lt_or_ge j L.length with hj | hj
  ·exact hj
  ·rw [List.getElem?_eq_none (by rw [zat]; exact hj)] at hu; cases hu
 have e : (⟨g,0,none⟩ : Addr).add j = ⟨g,j,none⟩ := by unfold Addr.add; split <;> simp_all
 rw [e,hc j (by omega),← zco .u64 L j hj,hu]
theorem zaq.own (h : zaq w t g cap n L) {base : Nat} (hb : base ≤ g) : w.ownsRow base t 1 (.slice (some ⟨g,0,none⟩) n cap) n (zam .u64 L) := by
 obtain ⟨cur,h0,h1,h2,h3,h4,h5⟩ := h
 exact ⟨by rw [zat]; omega,.inr ⟨g,cap,cur,rfl,hb,h0,h1,h2,by omega,by rw [Nat.mul_one]; exact h5⟩⟩
theorem zaq.made (w : World) (t : TypeId) (N : Nat) (hN : N ≤ maxLen) : zaq (w.alloc (.cells (madeCells (Value.cells (.int .u64 0)) N) t)) t w.heap.size N N (List.replicate N 0) := by
 refine ⟨_,Blk.new w t _,Nat.le_refl _,hN,size_madeCells _ _,by simp,?_⟩
 show (madeCells #[Value.int .u64 0] N).toList.take N = _
 rw [toList_madeCells_one,List.take_of_length_le (by simp)]
 simp [zam]
theorem zaq.of_own {base : Nat} {v : Value} {l : List Nat} (h : w.ownsRow base t 1 v n (zam .u64 l)) (hn : 0 < n) : ∃ g cap,v = .slice (some ⟨g,0,none⟩) n cap ∧ base ≤ g ∧ zaq w t g cap n l := by
 obtain ⟨h1,h2⟩ := h
 rcases h2 with ⟨_,h⟩ | ⟨g,cap,cur,e,hb,hk,a,b,c,d⟩
 ·omega
 ·refine ⟨g,cap,e,hb,cur,hk,a,b,by omega,by rw [zat] at h1; omega,?_⟩
  rw [Nat.mul_one] at d
  exact d
end
theorem zan.of_grown_own {w : World} {base n : Nat} {t : TypeId} {v : Value} {xs : List Value} (h : w.ownsRow base t 1 v n xs) : ∃ A c,v = .slice A n c ∧ n ≤ c ∧ c ≤ maxLen ∧ zan w w.heap.size 1 A n xs := by
 have h0 := h
 obtain ⟨h1,h2⟩ := h
 rcases h2 with ⟨e,hn⟩ | ⟨g,cap,cur,e,hb,hk,a,b,c,d⟩
 ·subst hn
  exact ⟨none,0,e,Nat.le_refl _,by unfold maxLen; omega,by subst e; exact zan.of_own h0⟩
 ·exact ⟨_,_,e,a,b,by subst e; exact zan.of_own h0⟩
end Go.Proofs.YtfieheffipfahaaGreatDoor
namespace Go.Proofs.YtfieheffipfahaaGreatDoor
open Go Go.RowKit
set_option maxHeartbeats 16000000
set_option linter.unusedVariables false
structure zhj (w : World) (A : oA9) (n c : Nat) (xs : List Nat) : Prop where
 len : xs.length = n
 fits : n ≤ c
 most : c ≤ 9223372036854775807
 num : ∀ i,i < n → ∃ (ad : Addr) (B : oA9) (m d : Nat),A = some ad ∧ ad.block < w.heap.size ∧ w.cell? (ad.add i) = some (.slice B m d) ∧ zaf w (xs.getD i 0) B m d
theorem zhj.below {w w' : World} {A : oA9} {n c : Nat} {xs : List Nat} (h : zhj w A n c xs) (hb : Below w.heap.size w w') : zhj w' A n c xs :=
 ⟨h.len,h.fits,h.most,fun i hi => by
  obtain ⟨ad,B,m,d,e,h1,h2,h3⟩ := h.num i hi
  exact ⟨ad,B,m,d,e,Nat.lt_of_lt_of_le h1 hb.size,zad hb h2,h3.below hb⟩⟩
theorem zhj.none_ (w : World) : zhj w none 0 0 [] := ⟨rfl,Nat.le_refl _,by omega,fun i hi => by omega⟩
theorem zec {w : World} {A : oA9} {n c x : Nat} (h : zaf w x A n c) {p : Addr} (hp : 0 < n → ∀ ad,A = some ad → ad.block ≠ p.block) (u : Value) : zaf (w.setCell p u) x A n c := by
 by_cases hn : 0 < n
 ·exact zbw h (hp hn) u
 ·exact ⟨⟨h.1.1,fun h0 => absurd h0 hn⟩,h.2⟩
theorem zlD {w w' : World} {x : Nat} {B : oA9} {m d : Nat} (h : zaf w x B m d) {row : Option Nat} (hg : w.grownBy w' row) (hr : 0 < m → ∀ ad,B = some ad → some ad.block ≠ row) : zaf w' x B m d := by
 obtain ⟨hr0,h1,h2⟩ := h
 refine ⟨⟨hr0.1,fun hn => ?_⟩,h1,h2⟩
 obtain ⟨ad,e,hb,hc⟩ := hr0.2 hn
 refine ⟨ad,e,Nat.lt_of_lt_of_le hb hg.size,fun j u hu => ?_⟩
 exact (World.cell?_of_block (hg.block _ (by rw [zaz]; exact hb) (by rw [zaz]; exact hr hn ad e))).trans (hc j u hu)
theorem zkf {w : World} {A : oA9} {n c x g : Nat} {t : TypeId} {a : oA9} {b d : Nat} (h : zaf w x A n c) (hk : Blk w g t #[.slice a b d]) : 0 < n → ∀ ad,A = some ad → ad.block ≠ g := fun hn ad e hg => by
 obtain ⟨ad',e',_,hc⟩ := h.1.2 hn
 rw [e] at e'
 injection e' with e'
 subst e'
 have hl := h.len
 have h0 := hc 0 (.int .u64 ((dg 18446744073709551616 x).getD 0 0 : Nat)) (zco .u64 _ 0 (by omega))
 have e0 : ad.add 0 = ad := by unfold Addr.add; rw [if_pos rfl]
 rw [e0] at h0
 obtain ⟨bk,off,pr⟩ := ad
 simp only at hg
 subst hg
 unfold Blk at hk
 cases pr with
 | none =>
   rw [show w.cell? ⟨bk,off,none⟩ = #[Value.slice a b d][off]? from cell_of_row w bk off _ t (0,0) hk] at h0
   match off,h0 with
   | 0,h0 => simp at h0
   | o + 1,h0 => simp at h0
 | some q => simp [World.cell?,hk] at h0
theorem zcK {w : World} {A : oA9} {n c x g : Nat} {t : TypeId} {a : oA9} {b d : Nat} (h : zaf w x A n c) (hk : Blk w g t #[.slice a b d]) (u : Value) : zaf (w.setCell ⟨g,0,none⟩ u) x A n c :=
 zec h (zkf h hk) u
theorem zao {w : World} {A : oA9} {n c x g : Nat} {a : oA9} {b d : Nat} (h : zaf w x A n c) (hk : zbl w g (.slice a b d)) (u : Value) : zaf (w.setCell ⟨g,0,none⟩ u) x A n c := by
 obtain ⟨t,hk⟩ := hk
 exact zcK h hk u
def Apart (base : Nat) (v : Value) (B : oA9) (m : Nat) : Prop := 0 < m → ∀ ad,B = some ad → base ≤ ad.block ∧ v.ownBlock ≠ some ad.block
theorem Apart.fresh {w : World} {base : Nat} {v : Value} {B : oA9} {m n : Nat} {e : TypeId} {vs : List Value} (hf : zdq w B) (hv : w.ownsRow base e 1 v n vs) (hb : base ≤ w.heap.size) : Apart base v B m := fun _ ad e => by
 have h1 := hf ad e
 refine ⟨by omega,fun hh => ?_⟩
 have := (hv.lt _ hh).2
 omega
structure zcH (w : World) (base : Nat) (v : Value) (xs : List Nat) (vs : List Value) : Prop where
 own : w.ownsRow base 29 1 v xs.length vs
 num : ∀ i,i < xs.length → ∃ (B : oA9) (m d : Nat),vs[i]? = some (.slice B m d) ∧ zaf w (xs.getD i 0) B m d ∧ Apart base v B m
theorem zcH.nil (w : World) (base : Nat) : zcH w base (.slice none 0 0) [] [] := ⟨World.ownsRow_nil _ _ _ _,fun i hi => by simp at hi⟩
theorem zcH.len {w : World} {base : Nat} {v : Value} {xs : List Nat} {vs : List Value} (h : zcH w base v xs vs) : vs.length = xs.length := by have := h.own.1; omega
theorem zcH.below {w w' : World} {base : Nat} {v : Value} {xs : List Nat} {vs : List Value} (h : zcH w base v xs vs) (hb : Below w.heap.size w w') : zcH w' base v xs vs := by
 refine ⟨⟨h.own.1,?_⟩,fun i hi => ?_⟩
 ·rcases h.own.2 with h1 | ⟨g,cap,cur,e1,e2,e3,e4⟩
  ·exact .inl h1
  ·exact .inr ⟨g,cap,cur,e1,e2,(hb.block g (Blk.lt (t := 29) (cs := cur) e3)).trans e3,e4⟩
 ·obtain ⟨B,m,d,hv,hw,hf⟩ := h.num i hi
  exact ⟨B,m,d,hv,hw.below hb,hf⟩
theorem zcH.set_ {w : World} {base : Nat} {v : Value} {xs : List Nat} {vs : List Value} (h : zcH w base v xs vs) {p : Addr} (hp : p.block < base) (u : Value) : zcH (w.setCell p u) base v xs vs := by
 refine ⟨⟨h.own.1,?_⟩,fun i hi => ?_⟩
 ·rcases h.own.2 with h1 | ⟨g,cap,cur,e1,e2,e3,e4⟩
  ·exact .inl h1
  ·exact .inr ⟨g,cap,cur,e1,e2,Blk.far (t := 29) (cs := cur) e3 (by omega) u,e4⟩
 ·obtain ⟨B,m,d,hv,hw,hf⟩ := h.num i hi
  exact ⟨B,m,d,hv,zec hw (fun hm ad e => by have := (hf hm ad e).1; omega) u,hf⟩
end Go.Proofs.YtfieheffipfahaaGreatDoor
namespace Go.Proofs.YtfieheffipfahaaGreatDoor
open Go Go.RowKit
set_option maxHeartbeats 16000000
def zap (w : World) : Prop := ∀ j,j < Lib.deBruijn64tab.length → w.cell? ⟨4,j,none⟩ = some (.int .u8 (Lib.deBruijn64tab.getD j 0 : Nat))
theorem zap.below {B : Nat} {w w' : World} (h : zap w) (hb : Below B w w') (hB : 4 < B) : zap w' := fun j hj => (hb.cell (p := ⟨4,j,none⟩) hB).trans (h j hj)
theorem zap.drewN {w : World} (h : zap w) (n : Nat) : zap (w.drewN n) := h
theorem zap.on {w w' : World} (h : zap w) (hb : Below w.heap.size w w') : zap w' := h.below hb (by
 have := h 0 (by decide)
 exact World.block_lt_of_cell? w _ this)
end Go.Proofs.YtfieheffipfahaaGreatDoor
namespace Go.Proofs.YtfieheffipfahaaGreatDoor
open Go Go.RowKit
set_option maxHeartbeats 16000000
theorem tz_key (x a : Nat) (hx : x < 18446744073709551616) (hx0 : x ≠ 0) (hlow : x &&& (18446744073709551616 - x) = a) :
  IntKind.u64.wrap (bits BinOp.and IntKind.u64 (x : Int) (IntKind.u64.wrap (-(x : Int))) * 285870213051353865) / 288230376151711744 = ((a * 285870213051353865 % 18446744073709551616 / 288230376151711744 : Nat) : Int) := by
 have e1 : IntKind.u64.wrap (-(x : Int)) = ((18446744073709551616 - x : Nat) : Int) := by rw [IntKind.wrap_u64]; omega
 rw [e1,bits_and_u64_nat x _ hx (by omega),hlow,IntKind.wrap_u64]
 omega
theorem zkb (x k idx : Nat) (w : World) (hx0 : ((x : Int) == 0) = false)
  (key : IntKind.u64.wrap (bits BinOp.and IntKind.u64 (x : Int) (IntKind.u64.wrap (-(x : Int))) * 285870213051353865) / 288230376151711744 = (idx : Int))
  (hi : idx < 64) (hk : k < 64) (hcell : w.cell? ⟨4,idx,none⟩ = some (.int .u8 k)) :
  Calls Tryz.prog 165 #[.int .u64 x] w fun e w' => e = .returned (.int .i64 k) ∧ w = w' := by
 go_enter Tryz.func165,Tryz.ntmps165
 go_wp2_with (simp only [key])
 go_ret
 exact ⟨rfl,rfl⟩
theorem zkc (w : World) :
  Calls Tryz.prog 165 #[.int .u64 0] w fun e w' => e = .returned (.int .i64 64) ∧ w = w' := by
 go_enter Tryz.func165,Tryz.ntmps165
 go_wp2
 go_ret
 exact ⟨rfl,rfl⟩
theorem znv (x : Int) (hx : Wd x) (w : World) (hT : zap w) :
  Calls Tryz.prog 165 #[.int .u64 x] w fun e w' => e = .returned (.int .i64 (zfs x)) ∧ w = w' := by
 obtain ⟨h0,h1⟩ := hx
 obtain ⟨x,rfl⟩ := Int.eq_ofNat_of_zero_le h0
 have hN : x < 18446744073709551616 := by omega
 unfold zfs
 rw [Int.toNat_natCast]
 by_cases hx0 : x = 0
 ·subst hx0
  exact zkc w
 ·obtain ⟨hlow,hk⟩ := Lib.lowest_bit 64 x hx0 hN
  obtain ⟨hi,htab⟩ := Lib.deBruijn64_at _ hk
  have hcell := hT _ hi
  rw [htab] at hcell
  exact zkb x _ _ w (by simp; omega) (tz_key x _ hN hx0 hlow) hi hk hcell
end Go.Proofs.YtfieheffipfahaaGreatDoor
namespace Go.Proofs.YtfieheffipfahaaGreatDoor
open Go Go.RowKit
set_option maxHeartbeats 16000000
theorem zmO (x : Int) (hx : Wd x) (w : World) (hT : zap w) :
  Calls Tryz.prog 156 #[.int .u64 x] w fun e w' => e = .returned (.int .i64 (zfs x)) ∧ w = w' := by
 have H := lh9 (znv x hx w hT)
 clear hT
 go_enter Tryz.func156,Tryz.ntmps156
 go_wp2_with (go_at_call 165; refine H.out.mono ?_; rintro e w' ⟨rfl,rfl⟩)
 go_ret
 exact ⟨rfl,rfl⟩
end Go.Proofs.YtfieheffipfahaaGreatDoor
