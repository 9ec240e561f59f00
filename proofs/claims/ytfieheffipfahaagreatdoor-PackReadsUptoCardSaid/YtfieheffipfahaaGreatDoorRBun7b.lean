/- What this claim leans on. -/
import Derived.Test.YtfieheffipfahaaGreatDoorRBun6b
import Derived.Test.YtfieheffipfahaaGreatDoorRBun7
import Derived.Laws.Concat
namespace Go.Proofs.YtfieheffipfahaaGreatDoor
open Go Go.RowKit
set_option maxHeartbeats 16000000
set_option maxRecDepth 100000
set_option linter.unusedVariables false
set_option linter.unusedSimpArgs false
theorem neg_take (L : List UInt8) : ((zau (L.take 1)).toList == [45]) = zcQ L:=zcN _ _ _ (by
 rw [zaI]; unfold zcQ
 cases L with
 | nil => rfl
 | cons a t => simp)
theorem zlt (L : List UInt8) (w : World) (hS : L.length ≤ 2147483648) :
  Calls Tryz.prog 149 #[.string (zau L),.string { data:=#[45] }] w fun e w' => e = .returned (.bool (zcQ L)) ∧ w = w':=by
 have hsz : (zau L).size = L.length:=zay L
 have t1:=neg_take L
 have s1 : 1 ≤ L.length → ∀ w,(Instr.slice 9 (.string (zau L)) none (some (.int .i64 (1 : Int))) none).run Tryz.prog w = .ok (.string (zau (L.take 1))) w:=fun h => zjq Tryz.underlying9 L 1 h
 have hn : L.length = 0 → zcQ L = false:=fun h => by rw [List.eq_nil_of_length_eq_zero h]; rfl
 have m1 : ({ data:=#[45] } : ByteArray).size = 1:=rfl
 obtain ⟨S,hS2⟩ : ∃ S,L.length = S:=⟨_,rfl⟩
 rw [hS2] at hsz s1 hn hS
 obtain ⟨U,hU⟩ : ∃ u,zau L = u:=⟨_,rfl⟩
 obtain ⟨V,hV⟩ : ∃ u,zau (L.take 1) = u:=⟨_,rfl⟩
 obtain ⟨p,hp⟩ : ∃ p,zcQ L = p:=⟨_,rfl⟩
 rw [hU] at hsz s1 ⊢
 rw [hV] at s1 t1
 rw [hp] at t1 hn ⊢
 clear hS2 hU hV hp
 by_cases h0 : S = 0
 ·rw [hn h0]
  subst h0
  have i1 : ¬ (1 : Int) ≤ ((0 : Nat) : Int):=by omega
  clear s1 t1 hn
  go_enter Tryz.func149,Tryz.ntmps149
  go_wp2
  go_ret
  exact ⟨rfl,rfl⟩
 ·have i1 : (1 : Int) ≤ (S : Int):=by omega
  have s2:=s1 (by omega)
  clear s1 hn h0
  go_enter Tryz.func149,Tryz.ntmps149
  go_wp2
  go_ret
  exact ⟨rfl,rfl⟩
theorem cut_lite (L : List UInt8) (w : World) (hS : L.length ≤ 2147483648) :
  Calls Tryz.prog 130 #[.string (zau L),.string { data:=#[45] }] w fun e w' => e = .returned (.tuple #[.string (zau (zbc L)),.bool (zcQ L)]) ∧ w = w':=by
 have HP:=lh9 (fun w' => zlt L w' hS)
 have m1 : ({ data:=#[45] } : ByteArray).size = 1:=rfl
 have hsz : (zau L).size = L.length:=zay L
 cases hp : zcQ L
 ·have hb : zbc L = L:=by
   unfold zbc
   unfold zcQ at hp
   rw [if_neg (of_decide_eq_false hp)]
  rw [hp] at HP
  rw [hb]
  obtain ⟨U,hU⟩ : ∃ u,zau L = u:=⟨_,rfl⟩
  rw [hU] at HP ⊢
  clear hp hb hU hsz
  go_enter Tryz.func130,Tryz.ntmps130
  go_wp2_with fail
  refine (HP.out _).mono ?_
  rintro e w1 ⟨rfl,rfl⟩
  go_wp2
  go_ret2
  exact ⟨rfl,rfl⟩
 ·have hb : zbc L = L.drop 1:=by
   unfold zbc
   unfold zcQ at hp
   rw [if_pos (of_decide_eq_true hp)]
  have hl : 1 ≤ L.length:=by
   cases L with
   | nil => cases hp
   | cons a t => simp
  have s1 : ∀ w,(Instr.slice 9 (.string (zau L)) (some (.int .i64 (1 : Int))) none none).run Tryz.prog w = .ok (.string (zau (L.drop 1))) w:=zew Tryz.underlying9 L 1 hl
  rw [hp] at HP
  rw [hb]
  obtain ⟨U,hU⟩ : ∃ u,zau L = u:=⟨_,rfl⟩
  obtain ⟨V,hV⟩ : ∃ u,zau (L.drop 1) = u:=⟨_,rfl⟩
  rw [hU] at HP s1 ⊢
  rw [hV] at s1 ⊢
  clear hp hb hU hV hl hsz
  go_enter Tryz.func130,Tryz.ntmps130
  go_wp2_with fail
  refine (HP.out _).mono ?_
  rintro e w1 ⟨rfl,rfl⟩
  go_wp2
  go_ret2
  exact ⟨rfl,rfl⟩
theorem zpp (L : List UInt8) (w : World) (hS : L.length ≤ 2147483648) :
  Calls Tryz.prog 102 #[.string (zau L),.string { data:=#[45] }] w fun e w' => e = .returned (.tuple #[.string (zau (zbc L)),.bool (zcQ L)]) ∧ w = w':=by
 have HP:=lh9 (fun w' => cut_lite L w' hS)
 obtain ⟨U,hU⟩ : ∃ u,zau L = u:=⟨_,rfl⟩
 obtain ⟨V,hV⟩ : ∃ u,zau (zbc L) = u:=⟨_,rfl⟩
 obtain ⟨p,hp⟩ : ∃ p,zcQ L = p:=⟨_,rfl⟩
 rw [hU,hV,hp] at HP
 rw [hU,hV,hp]
 clear hU hV hp
 go_enter Tryz.func102,Tryz.ntmps102
 go_wp2_with fail
 refine (HP.out _).mono ?_
 rintro e w1 ⟨rfl,rfl⟩
 go_wp2
 go_ret2
 exact ⟨rfl,rfl⟩
theorem zoc {x : Int} (h : x < 0) : ({ data:=#[45] } : ByteArray) ++ zau (zbf x.natAbs) = zau (zbn x):=by
 unfold zbn; rw [if_pos h]
 apply ByteArray.ext
 rw [ByteArray.data_append]
 simp [zau]
theorem zpJ {x : Int} (h : ¬ x < 0) : zau (zbf x.natAbs) = zau (zbn x):=by unfold zbn; rw [if_neg h]
theorem zeJ (z : Int) (b : Bool) (A : oA9) (n c : Nat) (w : World) (hA : zaE w z b A n c) (hn : n ≤ 1073741824) :
  Calls Tryz.prog 47 #[.agg #[.bool b,.slice A n c]] w fun e w' => e = .returned (.string (zau (zbn z))) ∧ Below w.heap.size w w':=by
 obtain ⟨hB,b2,b5⟩:=zaz w 31 #[.bool b,.slice A n c]
 have HT:=lh9 (zhz z.natAbs A n c _ (hA.2.below hB) hn)
 have hsz : Sz n z.natAbs:=by
  unfold Sz
  have h:=zaU (b:=18446744073709551616) (by decide) z.natAbs
  rwa [hA.2.len] at h
 have hts:=zdU hsz
 have hbz:=hA.1
 have g0 : (w.alloc (.cells #[.bool b,.slice A n c] 31)).cell? ⟨w.heap.size,0,none⟩ = some (.bool b):=b2.cell 0
 clear hA hsz b2 b5
 obtain ⟨U,hU⟩ : ∃ u,zau (zbf z.natAbs) = u:=⟨_,rfl⟩
 have hus : U.size ≤ 2147483648 * 64:=by rw [← hU,zay]; omega
 cases b
 ·have e:=zpJ (x:=z) (by simpa using hbz)
  rw [hU] at e HT
  rw [← e]
  clear hU hts hbz e
  go_enter Tryz.func47,Tryz.ntmps47
  go_wp2_with fail
  refine HT.out.mono ?_
  rintro e w1 ⟨rfl,hb⟩
  have hB1:=zac hB hb
  have g0:=zad hb g0
  clear hb hB HT
  go_wp2
  go_ret
  exact ⟨rfl,hB1⟩
 ·have e:=zoc (x:=z) (by simpa using hbz)
  rw [hU] at e HT
  rw [← e]
  obtain ⟨V,hV⟩ : ∃ u,({ data:=#[45] } : ByteArray) ++ U = u:=⟨_,rfl⟩
  have HVM:=lh9 (fun w' : World => (show (Op.stringOp .add ({ data:=#[45] } : ByteArray) U).run Tryz.prog w' = .ok (.string V) w' by
   rw [run_string_add_sum w' _ _ (by have : ({ data:=#[45] } : ByteArray).size = 1:=rfl; omega),hV]))
  rw [hV]
  clear hU hts hbz e hV
  go_enter Tryz.func47,Tryz.ntmps47
  go_wp2_with fail
  refine HT.out.mono ?_
  rintro e w1 ⟨rfl,hb⟩
  have hB1:=zac hB hb
  have g0:=zad hb g0
  have s1:=fun w' => HVM.out w'
  clear hb hB HT HVM hus
  go_wp2
  go_ret
  exact ⟨rfl,hB1⟩
theorem body_len (L : List UInt8) : (zbc L).length ≤ L.length:=by
 unfold zbc
 split
 ·simp
 ·exact Nat.le_refl _
theorem val_sgn (L : List UInt8) : zbB L = zcD (zcQ L) (zaG (zbc L)):=rfl
theorem ok_low (L : List UInt8) : okI L = (okR (zbc L) && !(zcQ L && decide (zaG (zbc L) = 0))):=rfl
theorem zfJ {w W : World} {g : Nat} {z : Int} {t b : Bool} {A : oA9} {n c : Nat} (hg : w.heap.size ≤ g) (hk : Blk W g 31 #[.bool false,.slice none 0 0]) (hi : zaE W z b A n c) (hB : Below w.heap.size w W) :
  zez w z t (.returned (.tuple #[.agg #[.bool b,.slice A n c],.bool t])) ((W.setCell ⟨g,0,none⟩ (.bool b)).setCell ⟨g,1,none⟩ (.slice A n c)) :=
 ⟨b,A,n,c,rfl,zep hi hk b A n c,zao (p:=⟨g,1,none⟩) _ hg (zao (p:=⟨g,0,none⟩) _ hg hB)⟩
theorem zmt (w : World) : zaE w 0 false none 0 0:=⟨rfl,zdV w⟩
theorem zle (s : ByteArray) (w : World) (hs : s.size ≤ 2147483648) :
  Calls Tryz.prog 55 #[.string s] w (zez w (if okI s.data.toList then zbB s.data.toList else 0) (okI s.data.toList)):=by
 obtain ⟨hB,k2,b5⟩:=zaz w 31 #[.bool false,.slice none 0 0]
 obtain ⟨L,rfl⟩ : ∃ L,s = zau L:=⟨_,(zlD s).symm⟩
 rw [zaI]
 rw [zay] at hs
 have HCP:=lh9 (fun w' => zpp L w' hs)
 have HRD : Hid (∀ w',Calls Tryz.prog 58 #[.string (zau (zbc L))] w' (zbI w' (if okR (zbc L) then zaG (zbc L) else 0) (okR (zbc L)))):=fun w' => zbY (zau (zbc L)) w' (by rw [zay]; exact Nat.le_trans (body_len L) hs)
 rw [val_sgn,ok_low]
 obtain ⟨U,hU⟩ : ∃ u,zau L = u:=⟨_,rfl⟩
 obtain ⟨V,hV⟩ : ∃ u,zau (zbc L) = u:=⟨_,rfl⟩
 obtain ⟨p,hp⟩ : ∃ u,zcQ L = u:=⟨_,rfl⟩
 obtain ⟨ok,ho⟩ : ∃ u,okR (zbc L) = u:=⟨_,rfl⟩
 obtain ⟨x,hx⟩ : ∃ u,zaG (zbc L) = u:=⟨_,rfl⟩
 rw [hU,hV,hp] at HCP
 rw [hV,ho,hx] at HRD
 rw [hU,hp,ho,hx]
 clear hU hV hp ho hx hs
 have hcase : (ok = false) ∨ (ok = true ∧ p = false) ∨ (ok = true ∧ p = true ∧ x = 0) ∨ (ok = true ∧ p = true ∧ x ≠ 0):=by
  cases ok <;> cases p <;> simp <;> omega
 rcases hcase with rfl | ⟨rfl,rfl⟩ | ⟨rfl,rfl,hx⟩ | ⟨rfl,rfl,hx⟩
 ·skip
  rw [show (if (false && !(p && decide (x = 0))) = true then zcD p x else 0) = 0 from rfl,Bool.false_and]
  rw [if_neg (by simp)] at HRD
  go_enter Tryz.func55,Tryz.ntmps55
  go_wp2_with fail
  generalize w.alloc (.cells #[.bool false,.slice none 0 0] 31) = W0 at *
  clear b5
  refine (HCP.out _).mono ?_
  rintro e w1 ⟨rfl,rfl⟩
  go_wp2_with fail
  refine (HRD.out _).mono ?_
  rintro e w2 ⟨A2,n2,c2,rfl,hw2,hb⟩
  have hB2:=zac hB hb
  have k2:=zae hb k2
  clear hb HRD HCP hB
  obtain ⟨d1,d2,d5⟩:=zaz w2 29 #[.slice A2 n2 c2]
  have hB3:=zac hB2 d1
  have k3:=zae d1 k2
  have hw3:=hw2.below d1
  have g3 : (w2.alloc (.cells #[.slice A2 n2 c2] 29)).cell? ⟨w2.heap.size,0,none⟩ = some (.slice A2 n2 c2):=d2.cell 0
  clear hB2 k2 d1 d2 d5 hw2
  have hk9:=(k3.set_ 0 (.bool false)).set_ 1 (.slice none 0 0)
  have r0:=hk9.cell 0
  have r1:=hk9.cell 1
  have c0:=k3.cell 0
  have f0:=k3.frozen 0
  have c1 : ((w2.alloc (.cells #[.slice A2 n2 c2] 29)).setCell ⟨w.heap.size,0,none⟩ (.bool false)).cell? ⟨w.heap.size,1,none⟩ = some (.slice none 0 0):=(k3.set_ 0 (.bool false)).cell 1
  have f1:=(k3.set_ 0 (.bool false)).frozen 1
  have HG : Hid (zez w (0) false (.returned (.tuple #[.agg #[.bool false,.slice none 0 0],.bool false])) (((w2.alloc (.cells #[.slice A2 n2 c2] 29)).setCell ⟨w.heap.size,0,none⟩ (.bool false)).setCell ⟨w.heap.size,1,none⟩ (.slice none 0 0))) :=
   zfJ (Nat.le_refl _) k3 (zmt _) hB3
  clear hk9 k3 hB3 hw3 
  go_wp2
  refine bodyPost_ret (v:=.tuple #[.agg #[.bool false,.slice none 0 0],.bool false]) (by simp [results,Tryz.results55,go_sem,r0,r1]) rfl ?_
  exact HG.out
 ·skip
  rw [show (true && !(false && decide (x = 0))) = true from rfl,if_pos rfl]
  rw [if_pos rfl] at HRD
  go_enter Tryz.func55,Tryz.ntmps55
  go_wp2_with fail
  generalize w.alloc (.cells #[.bool false,.slice none 0 0] 31) = W0 at *
  clear b5
  refine (HCP.out _).mono ?_
  rintro e w1 ⟨rfl,rfl⟩
  go_wp2_with fail
  refine (HRD.out _).mono ?_
  rintro e w2 ⟨A2,n2,c2,rfl,hw2,hb⟩
  have hB2:=zac hB hb
  have k2:=zae hb k2
  clear hb HRD HCP hB
  obtain ⟨d1,d2,d5⟩:=zaz w2 29 #[.slice A2 n2 c2]
  have hB3:=zac hB2 d1
  have k3:=zae d1 k2
  have hw3:=hw2.below d1
  have g3 : (w2.alloc (.cells #[.slice A2 n2 c2] 29)).cell? ⟨w2.heap.size,0,none⟩ = some (.slice A2 n2 c2):=d2.cell 0
  clear hB2 k2 d1 d2 d5 hw2
  have hi:=zge false hw3
  rw [Bool.false_and] at hi
  have hk9:=(k3.set_ 0 (.bool false)).set_ 1 (.slice A2 n2 c2)
  have r0:=hk9.cell 0
  have r1:=hk9.cell 1
  have c0:=k3.cell 0
  have f0:=k3.frozen 0
  have c1 : ((w2.alloc (.cells #[.slice A2 n2 c2] 29)).setCell ⟨w.heap.size,0,none⟩ (.bool false)).cell? ⟨w.heap.size,1,none⟩ = some (.slice none 0 0):=(k3.set_ 0 (.bool false)).cell 1
  have f1:=(k3.set_ 0 (.bool false)).frozen 1
  have HG : Hid (zez w (zcD false x) true (.returned (.tuple #[.agg #[.bool false,.slice A2 n2 c2],.bool true])) (((w2.alloc (.cells #[.slice A2 n2 c2] 29)).setCell ⟨w.heap.size,0,none⟩ (.bool false)).setCell ⟨w.heap.size,1,none⟩ (.slice A2 n2 c2))) :=
   zfJ (Nat.le_refl _) k3 (hi) hB3
  clear hk9 k3 hB3 hw3 hi 
  go_wp2
  refine bodyPost_ret (v:=.tuple #[.agg #[.bool false,.slice A2 n2 c2],.bool true]) (by simp [results,Tryz.results55,go_sem,r0,r1]) rfl ?_
  exact HG.out
 ·skip
  rw [show (true && !(true && decide (x = 0))) = false from by rw [decide_eq_true hx]; rfl,if_neg (by simp)]
  rw [if_pos rfl] at HRD
  go_enter Tryz.func55,Tryz.ntmps55
  go_wp2_with fail
  generalize w.alloc (.cells #[.bool false,.slice none 0 0] 31) = W0 at *
  clear b5
  refine (HCP.out _).mono ?_
  rintro e w1 ⟨rfl,rfl⟩
  go_wp2_with fail
  refine (HRD.out _).mono ?_
  rintro e w2 ⟨A2,n2,c2,rfl,hw2,hb⟩
  have hB2:=zac hB hb
  have k2:=zae hb k2
  clear hb HRD HCP hB
  obtain ⟨d1,d2,d5⟩:=zaz w2 29 #[.slice A2 n2 c2]
  have hB3:=zac hB2 d1
  have k3:=zae d1 k2
  have hw3:=hw2.below d1
  have g3 : (w2.alloc (.cells #[.slice A2 n2 c2] 29)).cell? ⟨w2.heap.size,0,none⟩ = some (.slice A2 n2 c2):=d2.cell 0
  clear hB2 k2 d1 d2 d5 hw2
  have HZ:=lh9 (zch hx hw3)
  go_wp2_with fail
  refine HZ.out.mono ?_
  rintro e w4 ⟨rfl,hb⟩
  have hB4:=zac hB3 hb
  have k4:=zae hb k3
  have hw4:=hw3.below hb
  have g3:=zad hb g3
  clear hb HZ hB3 k3 hw3
  have hk9:=(k4.set_ 0 (.bool false)).set_ 1 (.slice none 0 0)
  have r0:=hk9.cell 0
  have r1:=hk9.cell 1
  have c0:=k4.cell 0
  have f0:=k4.frozen 0
  have c1 : (w4.setCell ⟨w.heap.size,0,none⟩ (.bool false)).cell? ⟨w.heap.size,1,none⟩ = some (.slice none 0 0):=(k4.set_ 0 (.bool false)).cell 1
  have f1:=(k4.set_ 0 (.bool false)).frozen 1
  have HG : Hid (zez w (0) false (.returned (.tuple #[.agg #[.bool false,.slice none 0 0],.bool false])) ((w4.setCell ⟨w.heap.size,0,none⟩ (.bool false)).setCell ⟨w.heap.size,1,none⟩ (.slice none 0 0))) :=
   zfJ (Nat.le_refl _) k4 (zmt _) hB4
  clear hk9 k4 hB4 hw4 hx
  go_wp2
  refine bodyPost_ret (v:=.tuple #[.agg #[.bool false,.slice none 0 0],.bool false]) (by simp [results,Tryz.results55,go_sem,r0,r1]) rfl ?_
  exact HG.out
 ·skip
  rw [show (true && !(true && decide (x = 0))) = true from by rw [decide_eq_false hx]; rfl,if_pos rfl]
  rw [if_pos rfl] at HRD
  go_enter Tryz.func55,Tryz.ntmps55
  go_wp2_with fail
  generalize w.alloc (.cells #[.bool false,.slice none 0 0] 31) = W0 at *
  clear b5
  refine (HCP.out _).mono ?_
  rintro e w1 ⟨rfl,rfl⟩
  go_wp2_with fail
  refine (HRD.out _).mono ?_
  rintro e w2 ⟨A2,n2,c2,rfl,hw2,hb⟩
  have hB2:=zac hB hb
  have k2:=zae hb k2
  clear hb HRD HCP hB
  obtain ⟨d1,d2,d5⟩:=zaz w2 29 #[.slice A2 n2 c2]
  have hB3:=zac hB2 d1
  have k3:=zae d1 k2
  have hw3:=hw2.below d1
  have g3 : (w2.alloc (.cells #[.slice A2 n2 c2] 29)).cell? ⟨w2.heap.size,0,none⟩ = some (.slice A2 n2 c2):=d2.cell 0
  clear hB2 k2 d1 d2 d5 hw2
  have HZ:=lh9 (zcd hx hw3)
  go_wp2_with fail
  refine HZ.out.mono ?_
  rintro e w4 ⟨rfl,hb⟩
  have hB4:=zac hB3 hb
  have k4:=zae hb k3
  have hw4:=hw3.below hb
  have g3:=zad hb g3
  clear hb HZ hB3 k3 hw3
  have hi:=zge true hw4
  rw [decide_eq_true hx] at hi
  have hk9:=(k4.set_ 0 (.bool true)).set_ 1 (.slice A2 n2 c2)
  have r0:=hk9.cell 0
  have r1:=hk9.cell 1
  have c0:=k4.cell 0
  have f0:=k4.frozen 0
  have c1 : (w4.setCell ⟨w.heap.size,0,none⟩ (.bool true)).cell? ⟨w.heap.size,1,none⟩ = some (.slice none 0 0):=(k4.set_ 0 (.bool true)).cell 1
  have f1:=(k4.set_ 0 (.bool true)).frozen 1
  have HG : Hid (zez w (zcD true x) true (.returned (.tuple #[.agg #[.bool true,.slice A2 n2 c2],.bool true])) ((w4.setCell ⟨w.heap.size,0,none⟩ (.bool true)).setCell ⟨w.heap.size,1,none⟩ (.slice A2 n2 c2))) :=
   zfJ (Nat.le_refl _) k4 (hi) hB4
  clear hk9 k4 hB4 hw4 hi hx
  go_wp2
  refine bodyPost_ret (v:=.tuple #[.agg #[.bool true,.slice A2 n2 c2],.bool true]) (by simp [results,Tryz.results55,go_sem,r0,r1]) rfl ?_
  exact HG.out
theorem zbh {T : World → Prop} : IntC T where
 new s x A n c w _ hA hn:=zmv s x A n c w hA (by omega)
 of z w _ h1 h2:=znZ z w h1 h2
 belowI z b A n c w _ hA hn:=zjx z b A n c w hA
 abs z b A n c w _ hA hn:=(zhA z b A n c w hA (by omega)).mono fun _ _ ⟨A',n',c',he,hw,hb,_⟩ => ⟨A',n',c',he,hw,hb⟩
 sign z b A n c w _ hA hn:=zlf z b A n c w hA
 text z b A n c w _ hA hn:=zeJ z b A n c w hA (by omega)
 cmp x y b b' A D n m c d w _ hA hD hn hm:=zmu x y b b' A D n m c d w hA hD (by omega) (by omega)
 read s w _ hs:=zle s w hs
end Go.Proofs.YtfieheffipfahaaGreatDoor
