/- What this claim leans on. -/
import Derived.Test.YtfieheffipfahaaGreatDoorXE9As
import Derived.Test.YtfieheffipfahaaGreatDoorXBunO
import Derived.Test.YtfieheffipfahaaGreatDoorXBunM
import Derived.IntWalk
namespace Go.Proofs.YtfieheffipfahaaGreatDoor
open Go Go.RowKit
open Go.Extern.Stop Go.Stop Go.Extern
set_option maxHeartbeats 16000000
set_option linter.unusedVariables false
theorem zjL (v : Value) (xT : TypeId) (w : World) : (Instr.typeAssert (.iface 123 v) xT 207 true).run Tryz.prog w = .ok (.tuple #[.nilIface,.bool false]) w := run_typeAssert_lacksB Tryz.underlying207 (by kernel_rfl) (by kernel_rfl) v xT w
theorem zhw (v : Value) (xT : TypeId) (w : World) : (Instr.typeAssert (.iface 123 v) xT 169 true).run Tryz.prog w = .ok (.tuple #[.iface 123 v,.bool true]) w := run_typeAssert_hasB Tryz.underlying169 (by kernel_rfl) v xT w
theorem zhz (h : Value) (w : World) : (Go.method 364 123 h "Unwrap").run Tryz.prog w = .ok (195,h) w := by kernel_rfl
theorem znP (z : Int) (fb : Nat) (t : Addr) (old : Value) (w : World) (hg : w.cell? ⟨0,0,none⟩ = some (.iface 164 (.agg #[.pointer (some ⟨5,44,none⟩)]))) (hf : w.cell? ⟨fb,2,none⟩ = some (.iface 47 (.int .i64 z))) (ht0 : w.cell? t = some old) (hf0 : w.frozen? t = false) :
  Calls Tryz.prog 69 #[.iface 123 (.pointer (some ⟨fb,0,none⟩)),.iface 184 (.pointer (some t))] w fun e w' => e = .returned (.bool true) ∧ w' = ((((w.alloc (.cells #[.pointer (some t)] 184)).alloc (.cells #[.pointer (some ⟨5,184,none⟩),.pointer (some ⟨w.heap.size,0,none⟩),.int .u64 150] 177)).alloc (.cells #[.pointer (some ⟨5,184,none⟩),.pointer (some ⟨w.heap.size,0,none⟩),.int .u64 150] 177)).alloc (.cells #[.int .i64 z] 47)).setCell t (.int .i64 z) := by
 have x_typeOf := @run_callFunc_extern Tryz.prog 67 _ ReflectliteType.typeOf Tryz.func67 (by kernel_rfl) (by kernel_rfl) (by kernel_rfl) (by kernel_rfl)
 have x_valueOf := @run_callFunc_extern Tryz.prog 112 _ (fun args => ReflectliteValue.unpack (args.getD 0 (.tuple #[]))) Tryz.func112 (by kernel_rfl) (by kernel_rfl) (by kernel_rfl) (by kernel_rfl)
 have x_type := @run_callFunc_extern Tryz.prog 113 _ (ReflectliteValue.methodAny (ReflectliteValue.valueError "reflectlite.Value.Type" 0) (fun t _ _ _ => ReflectliteType.toType t)) Tryz.func113 (by kernel_rfl) (by kernel_rfl) (by kernel_rfl) (by kernel_rfl)
 have x_isNil := @run_callFunc_extern Tryz.prog 114 _ (ReflectliteValue.method (ReflectliteValue.valueError "reflectlite.Value.IsNil" 0) ReflectliteValue.isNil) Tryz.func114 (by kernel_rfl) (by kernel_rfl) (by kernel_rfl) (by kernel_rfl)
 have x_kind := @run_callFunc_extern Tryz.prog 190 _ (ReflectliteType.abiMethod fun t => do pure (.int .u8 (← Rtype.kind t))) Tryz.func190 (by kernel_rfl) (by kernel_rfl) (by kernel_rfl) (by kernel_rfl)
 have x_telem := @run_callFunc_extern Tryz.prog 199 _ (ReflectliteType.method ReflectliteType.elem) Tryz.func199 (by kernel_rfl) (by kernel_rfl) (by kernel_rfl) (by kernel_rfl)
 have x_implements := @run_callFunc_extern Tryz.prog 200 _ (ReflectliteType.relation "Implements" ReflectliteType.implements_) Tryz.func200 (by kernel_rfl) (by kernel_rfl) (by kernel_rfl) (by kernel_rfl)
 have x_assignable := @run_callFunc_extern Tryz.prog 197 _ (ReflectliteType.relation "AssignableTo" ReflectliteType.assignableTo) Tryz.func197 (by kernel_rfl) (by kernel_rfl) (by kernel_rfl) (by kernel_rfl)
 have x_elem := @run_callFunc_extern Tryz.prog 134 _ (ReflectliteValue.method (ReflectliteValue.valueError "reflectlite.Value.Elem" 0) ReflectliteValue.elem) Tryz.func134 (by kernel_rfl) (by kernel_rfl) (by kernel_rfl) (by kernel_rfl)
 have x_set := @run_callFunc_extern Tryz.prog 135 _ ReflectliteValue.set Tryz.func135 (by kernel_rfl) (by kernel_rfl) (by kernel_rfl) (by kernel_rfl)
 have t0 := zev
 have t1 := zgK
 have m1 := zci
 have m2 := zht
 have m2' := zmn
 have m3 := zkO
 have m4 := zja
 have m5 := zhB
 have m6 := zfJ
 have m7 := zfI
 have m8 := zcD
 have m9 := zhy
 have n1 := ziY
 have n2 := zhv
 have n3 := ziW
 have l1 := zjL
 have l2 := zhw
 have l3 := zhz
 have n4 := zgF ⟨w.heap.size,0,none⟩ t ((w.alloc (.cells #[.pointer (some t)] 184)).alloc (.cells #[.pointer (some ⟨5,184,none⟩),.pointer (some ⟨w.heap.size,0,none⟩),.int .u64 150] 177)) (by simp)
 have hlt : 0 < w.heap.size := World.block_lt_of_cell? w ⟨0,0,none⟩ hg
 have htl : t.block < w.heap.size := World.block_lt_of_cell? w t ht0
 have hfl : fb < w.heap.size := World.block_lt_of_cell? w ⟨fb,2,none⟩ hf
 have hg2 : ((w.alloc (.cells #[.pointer (some t)] 184)).alloc (.cells #[.pointer (some ⟨5,184,none⟩),.pointer (some ⟨w.heap.size,0,none⟩),.int .u64 150] 177)).cell? ⟨0,0,none⟩ = some (.iface 164 (.agg #[.pointer (some ⟨5,44,none⟩)])) := by
  rw [World.cell?_alloc_lt _ _ ⟨0,0,none⟩ (by simp),World.cell?_alloc_lt _ _ ⟨0,0,none⟩ hlt]; exact hg
 have hf2 : (((w.alloc (.cells #[.pointer (some t)] 184)).alloc (.cells #[.pointer (some ⟨5,184,none⟩),.pointer (some ⟨w.heap.size,0,none⟩),.int .u64 150] 177)).alloc (.cells #[.pointer (some ⟨5,184,none⟩),.pointer (some ⟨w.heap.size,0,none⟩),.int .u64 150] 177)).cell? ⟨fb,2,none⟩ = some (.iface 47 (.int .i64 z)) := by
  rw [World.cell?_alloc_lt _ _ ⟨fb,2,none⟩ (by simp; omega),World.cell?_alloc_lt _ _ ⟨fb,2,none⟩ (by simp; omega),World.cell?_alloc_lt _ _ ⟨fb,2,none⟩ hfl]; exact hf
 have n5 := zgD ⟨w.heap.size,0,none⟩ t (((w.alloc (.cells #[.pointer (some t)] 184)).alloc (.cells #[.pointer (some ⟨5,184,none⟩),.pointer (some ⟨w.heap.size,0,none⟩),.int .u64 150] 177)).alloc (.cells #[.pointer (some ⟨5,184,none⟩),.pointer (some ⟨w.heap.size,0,none⟩),.int .u64 150] 177)) (by rw [World.cell?_alloc_lt _ _ ⟨w.heap.size,0,none⟩ (by simp; omega)]; simp)
 have n6 := zkN t ⟨w.heap.size + 1 + 1 + 1,0,none⟩ z old ((((w.alloc (.cells #[.pointer (some t)] 184)).alloc (.cells #[.pointer (some ⟨5,184,none⟩),.pointer (some ⟨w.heap.size,0,none⟩),.int .u64 150] 177)).alloc (.cells #[.pointer (some ⟨5,184,none⟩),.pointer (some ⟨w.heap.size,0,none⟩),.int .u64 150] 177)).alloc (.cells #[.int .i64 z] 47))
  (by rw [World.cell?_alloc_at _ _ _ _ (by simp)]; rfl)
  (by rw [World.cell?_alloc_lt _ _ t (by simp; omega),World.cell?_alloc_lt _ _ t (by simp; omega),World.cell?_alloc_lt _ _ t (by simp; omega),World.cell?_alloc_lt _ _ t htl]; exact ht0)
  (by rw [World.frozen?_alloc_old _ _ t (by simp; omega),World.frozen?_alloc_old _ _ t (by simp; omega),World.frozen?_alloc_old _ _ t (by simp; omega),World.frozen?_alloc_old _ _ t (Nat.ne_of_lt htl)]; exact hf0)
 go_enter Tryz.func69,Tryz.ntmps69
 go_wp2
 refine wp_loop_rounds 2 ?_
 rw [rounds_succ]
 go_wp2
 rw [rounds_succ]
 go_wp2
 go_ret
 exact ⟨rfl,rfl⟩
end Go.Proofs.YtfieheffipfahaaGreatDoor
namespace Go.Proofs.YtfieheffipfahaaGreatDoor
open Go Go.RowKit
set_option maxHeartbeats 16000000
set_option maxRecDepth 100000
set_option linter.unusedVariables false
theorem zhZ (p q r s : Nat) (hp : p < 18446744073709551616) (hq : q < 18446744073709551616) (hr : r < 18446744073709551616) (hs : s < 18446744073709551616) (w : World) :
  Calls Tryz.prog 131 #[.int .u64 p,.int .u64 q,.int .u64 r,.int .u64 s] w fun e w' => e = .returned (.tuple #[.int .u64 (((p * q + r + s) / 18446744073709551616 : Nat) : Int),.int .u64 (((p * q + r + s) % 18446744073709551616 : Nat) : Int)]) ∧ w = w' := by
 have h := zma p q r s ⟨by omega,by omega⟩ ⟨by omega,by omega⟩ ⟨by omega,by omega⟩ ⟨by omega,by omega⟩ w
 rw [(ma_nat p q r s).1,(ma_nat p q r s).2] at h
 exact h
end Go.Proofs.YtfieheffipfahaaGreatDoor
namespace Go.Proofs.YtfieheffipfahaaGreatDoor
open Go Go.RowKit
set_option maxHeartbeats 16000000
set_option maxRecDepth 100000
set_option linter.unusedVariables false
theorem zlJ (x a b : Nat) (A : oA9) (n c : Nat) (w : World) (hA : zaf w x A n c) (hn : n ≤ 274877906944) (ha : a < 18446744073709551616) (hb : b < 18446744073709551616) :
  Calls Tryz.prog 105 #[.agg #[.slice A n c],.int .u64 a,.int .u64 b] w (zaM w (x * a + b)) := by
 obtain ⟨i0,hi0,hz0,hz1,hz2⟩ := info_parts zfT
 have hln := lh9 hA.len
 have HWS := lh9 (fun w' (hb : Below w.heap.size w w') => zct x A n c w' (hA.below hb) (by omega))
 have hI := lh9 (ByB.start (a := a) hA.len hb)
 clear hA hb
 go_enter Tryz.func105,Tryz.ntmps105
 go_wp2_with fail
 generalize hW : (w.alloc (.cells #[.slice A n c] 29)).alloc (.cells #[.slice none 0 0] 29) = W0
 obtain ⟨b1,b2,b3,b5⟩ := zcm w 29 29 #[.slice A n c] #[.slice none 0 0]
 rw [hW] at b1 b2 b3 b5
 clear hW b2
 refine (HWS.out _ b1).mono ?_
 rintro e w1 ⟨v,rfl,hown,hb⟩
 obtain ⟨A1,c1,rfl,hc1,hc2,_⟩ := zan.of_grown_own hown
 have hB := zaa b1 hb
 have hk := zac hb b3
 have hs3 : w.heap.size + 2 ≤ W0.heap.size := b5
 obtain ⟨gs,hgs⟩ : ∃ g,W0.heap.size = g := ⟨_,rfl⟩
 have hgw : gs ≤ w1.heap.size := by rw [← hgs]; exact hb.size
 rw [hgs] at hown hs3
 clear hb b1 b3 b5 hgs
 go_wp2_with fail
 go_loopg [8,16] (n + 1) (fun g cy ix wr => ∃ (k cc : Nat) (L : List Nat),k ≤ n ∧ n < g + k ∧ ix = .int .i64 k ∧ cy = .int .u64 cc ∧ ByB x a b k n L cc ∧ wr.ownsRow gs 81 1 (.slice A1 n c1) n (zar .u64 L) ∧ Below w.heap.size w wr ∧ Blk wr (w.heap.size + 1) 29 #[.slice none 0 0] ∧ gs ≤ wr.heap.size)
 case atStart => exact ⟨0,b,_,Nat.zero_le _,by omega,rfl,rfl,hI.out,hown,hB,hk,hgw⟩
 case round =>
  clear hB hk hown hI hgw
  obtain ⟨k,cc,L,hkn,hg,rfl,rfl,hI,hown,hB,hk,hgw⟩ := hrel
  by_cases hlt : k < n
  ·obtain ⟨g,cap,e,hgg,hR⟩ := zao.of_own hown (by omega)
   injection e with e1 _ e3
   subst e1 e3
   have h2 := hR.cell k hlt
   rw [hI.get] at h2
   have h3 := hR.frozen k
   have hb2 := zck x k
   have hc3 := hI.carry
   have hST := hI.step (s := wd x k * a + cc + 0) ha hlt rfl
   obtain ⟨p,hpp⟩ : ∃ b,wd x k = b := ⟨_,rfl⟩
   rw [hpp] at h2 hb2 hST
   have HMA := lh9 (fun w' => zhZ p a cc 0 hb2 ha hc3 (by decide) w')
   obtain ⟨s1,e1⟩ : ∃ s1,(p * a + cc + 0) % 18446744073709551616 = s1 := ⟨_,rfl⟩
   obtain ⟨s2,e2⟩ : ∃ s2,(p * a + cc + 0) / 18446744073709551616 = s2 := ⟨_,rfl⟩
   rw [e1,e2] at HMA hST
   have HST := lh9 hST
   have HRS := lh9 ((hR.set_ k s1 hlt).own hgg)
   have i1 : (0 : Int) ≤ (k : Int) := by omega
   have i2 : (k : Int) < (n : Int) := by omega
   have hBS := fun u => zak (p := ⟨g,k,none⟩) u (by show w.heap.size ≤ g; omega) hB
   have kS := fun u => hk.far (p := ⟨g,k,none⟩) (by show w.heap.size + 1 ≠ g; omega) u
   clear hST hpp e1 e2 hI hown hR
   go_wp2_with fail
   refine (HMA.out _).mono ?_
   rintro e w' ⟨rfl,rfl⟩
   go_wp2
   go_roundg (n - k)
   case measure => omega
   case rel => exact ⟨k + 1,s2,_,by omega,by omega,by go_num,rfl,HST.out,HRS.out,hBS _,kS _,by simpa using hgw⟩
  ·have hkn2 : k = n := by omega
   subst hkn2
   have HD := lh9 (hI.done (by have := hln.out; omega))
   have hdg : Dgs 18446744073709551616 (L ++ [cc]) := hI.dgs.append (by intro d hd; simp at hd; subst hd; exact hI.carry)
   have HDG := lh9 hdg
   have hoa := hown.alloc (.cells #[.int .u64 (cc : Int)] 81)
   have hBa := zal (.cells #[.int .u64 (cc : Int)] 81) hB
   have hka := hk.alloc (.cells #[.int .u64 (cc : Int)] 81)
   have hsz := hB.size
   clear hI hdg
   go_wp2_with (at_builtin; refine zcG _ rfl (.tmp 32) (.tmp 34) 22 rfl gs 81 i0 (.int .u64 0) 1 8 Tryz.underlying22 hi0 hz0 hz1 hz2 rfl (by decide) (.slice A1 k c1) k (zar .u64 L) rfl hoa (wr.heap.size + 1) (some ⟨wr.heap.size,0,none⟩) 1 1 [.int .u64 (cc : Int)] rfl ⟨rfl,fun _ => ⟨_,rfl,by simp,ziw _ _ _⟩⟩ (zlK _ _) (by unfold maxLen; omega) (by omega) (by simp; omega) ?_; intro v' w1 hown' hgrow hat)
   obtain ⟨A2,c2,rfl,hc3,hc4,hr2⟩ := zan.of_grown_own hown'
   have hB2 : Below w.heap.size w w1 := hBa.grown hgrow (by simp; omega) (fun g hg => by have := hoa.lt g hg; omega)
   have hk2 : Blk w1 (w.heap.size + 1) 29 #[.slice none 0 0] := hka.grown hgrow (fun h => by have := hoa.lt _ h.symm; omega)
   have O := zco A2 (k + 1) c2 (L ++ [cc]) w1 (by rw [zfh]; exact hr2) HDG.out hc3 (by unfold maxLen at hc4; omega) (by omega)
   rw [HD.out] at O
   have HO := lh9 O
   clear O hown' hgrow hat hr2 hB hk hoa hBa hka
   go_wp2_with fail
   refine HO.out.mono ?_
   rintro e w' ⟨A3,n2,c3,rfl,hw,hb,hf⟩
   have hk3 := zac hb hk2
   have hc1 : w'.cell? ⟨w.heap.size + 1,0,none⟩ = some (.slice none 0 0) := hk3.cell 0
   have hf1 := hk3.frozen 0
   have hlt1 := hk2.lt
   have HG : Hid (zaM w (x * a + b) (.returned (.agg #[.slice A3 n2 c3])) (w'.setCell ⟨w.heap.size + 1,0,none⟩ (.slice A3 n2 c3))) :=
    zfP hw (zaa hB2 hb) (by show _ ≤ _; simp) (fun ad e => by have := hf ad e; show ad.block ≠ _; simp; omega) (fun ad e => by have := hf ad e; omega) _
   clear hb hw hf hk2 hk3 hB2
   go_wp2
   refine bodyPost_ret (v := .agg #[.slice A3 n2 c3]) (by simp [results,Tryz.results105,go_sem,hc1]) rfl ?_
   exact HG.out
end Go.Proofs.YtfieheffipfahaaGreatDoor
namespace Go.Proofs.YtfieheffipfahaaGreatDoor
open Go Go.RowKit
set_option maxHeartbeats 16000000
set_option maxRecDepth 100000
set_option linter.unusedVariables false
end Go.Proofs.YtfieheffipfahaaGreatDoor
