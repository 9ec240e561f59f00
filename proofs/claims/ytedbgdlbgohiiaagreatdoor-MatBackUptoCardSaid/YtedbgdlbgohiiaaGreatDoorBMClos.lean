/- What this claim leans on. -/
import Derived.Test.YtedbgdlbgohiiaaGreatDoorBMMat
namespace Go.Proofs.YtedbgdlbgohiiaaGreatDoor
open Go Go.RowKit
set_option maxHeartbeats 16000000
set_option maxRecDepth 100000
set_option linter.unusedVariables false
set_option linter.unusedSimpArgs false
theorem gq0 {w w' : World} {r : Rat} {b : Bool} {A E : oA9} {n c k f : Nat} (h : zai w' r b A n c E k f) (hb : Below w.heap.size w w') : zaI w r (.returned (.agg #[.bool b,.slice A n c,.slice E k f])) w':=⟨_,_,_,_,_,_,_,rfl,h,hb⟩
section
variable {A : oA9} {n c m : Nat} {M : List (List Rat)} {w : World}
theorem en_one1 : ∀ (args : Array Value) (w' : World),Sem.run Tryz.prog (callFunc 59 args) w' = .ok (.enter 59 args) w':=Go.Proofs.enters_of Tryz.func59 (by kernel_rfl) rfl
theorem cl_one (hT : zaj w) (i j : Nat) : Calls Tryz.prog 59 #[.int .i64 (i : Int),.int .i64 (j : Int)] w (zaI w (if i = j then 1 else 0)):=by
 obtain ⟨bx1,bx2,bz⟩:=zaC w 48 #[.bool false,.slice none 0 0,.slice none 0 0]
 by_cases hij : i = j
 ·have e0 : ((i : Int) == (j : Int)) = true:=by rw [beq_iff_eq]; omega
  rw [if_pos hij]
  have HT:=lh9 (hT.on bx1)
  have HB:=lh9 bx1
  have HK:=lh9 bx2
  clear hij bx1 bx2 bz hT
  go_enter Tryz.func59,Tryz.ntmps59
  go_wp2_with fail
  (with_reducible refine (zfJ 1 _ HT.out (by decide) (by decide)).mono ?_)
  rintro e w3 ⟨b3,A3,n3,c3,E3,k3,f3,rfl,hw3,hb⟩
  have hk2:=zac hb HK.out
  obtain ⟨sc0,sf0,sc1,sf1,sc2,sf2⟩:=st3 hk2 (.bool b3) (.slice A3 n3 c3)
  obtain ⟨r0,r1,r2⟩:=(sn3 hk2 (.bool b3) (.slice A3 n3 c3) (.slice E3 k3 f3)).c3
  have HG : Hid (zaI w 1 _ _):=gq3 (r:=1) hw3 hk2 (zaa HB.out hb) (Nat.le_refl _)
  clear hb hk2 hw3 HB HK HT
  go_wp2
  refine bodyPost_ret (v:=.agg #[.bool b3,.slice A3 n3 c3,.slice E3 k3 f3]) (by simp [results,Tryz.results59,go_sem,r0,r1,r2]) rfl ?_
  exact HG.out
 ·have e0 : ((i : Int) == (j : Int)) = false:=by rw [beq_eq_false_iff_ne]; omega
  rw [if_neg hij]
  obtain ⟨r0,r1,r2⟩:=bx2.c3
  have HG:=lh9 (gq0 (zhx _) bx1)
  clear bx1 bx2 bz hij
  go_enter Tryz.func59,Tryz.ntmps59
  go_wp2
  refine bodyPost_ret (v:=.agg #[.bool false,.slice none 0 0,.slice none 0 0]) (by simp [results,Tryz.results59,go_sem,r0,r1,r2]) rfl ?_
  exact HG.out
theorem en_copy1 : ∀ (args : Array Value) (w' : World),Sem.run Tryz.prog (callFunc 78 args) w' = .ok (.enter 78 args) w':=Go.Proofs.enters_of Tryz.func78 (by kernel_rfl) rfl
theorem cl_copy {g i j : Nat} (h : zat w A n c m M) (hk : Blk w g 28 #[.slice A n c,.int .i64 (m : Int)]) (hi : i < n) (hj : j < m) : Calls Tryz.prog 78 #[.int .i64 (i : Int),.int .i64 (j : Int),.pointer (some ⟨g,0,none⟩)] w (zaI w (atM M i j)):=by
 obtain ⟨bx1,bx2,bz⟩:=zaC w 48 #[.bool false,.slice none 0 0,.slice none 0 0]
 obtain ⟨ad,B,d,rfl,-,hc,ae,b1,B1,m1,d1,E1,u1,v1,rfl,-,h0,h1,h2,hq⟩:=h.place (Below.refl _ w) hi hj
 obtain ⟨g0,g1⟩:=(zac bx1 hk).c2
 have hc:=zab bx1 hc
 have h0:=zab bx1 h0
 have h1:=zab bx1 h1
 have h2:=zab bx1 h2
 have i1 : (0 : Int) ≤ (i : Int):=by omega
 have i2 : (i : Int) < (n : Int):=by omega
 have i3 : (0 : Int) ≤ (j : Int):=by omega
 have i4 : (j : Int) < (m : Int):=by omega
 obtain ⟨by1,by2,-⟩:=zaC w 48 #[.bool b1,.slice B1 m1 d1,.slice E1 u1 v1]
 obtain ⟨r0,r1,r2⟩:=by2.c3
 have HG:=lh9 (gq0 (hq.below by1) by1)
 clear hq bx1 bx2 bz by1 by2 h hk
 go_enter Tryz.func78,Tryz.ntmps78
 go_wp2
 refine bodyPost_ret (v:=.agg #[.bool b1,.slice B1 m1 d1,.slice E1 u1 v1]) (by simp [results,Tryz.results78,go_sem,r0,r1,r2]) rfl ?_
 exact HG.out
theorem zkZ : ∀ (args : Array Value) (w' : World),Sem.run Tryz.prog (callFunc 77 args) w' = .ok (.enter 77 args) w':=Go.Proofs.enters_of Tryz.func77 (by kernel_rfl) rfl
theorem zmK {g i j : Nat} (h : zat w A n c m M) (hk : Blk w g 28 #[.slice A n c,.int .i64 (m : Int)]) (hi : i < n) (hj : j < m) : Calls Tryz.prog 77 #[.int .i64 (j : Int),.int .i64 (i : Int),.pointer (some ⟨g,0,none⟩)] w (zaI w (atM M i j)):=by
 obtain ⟨bx1,bx2,bz⟩:=zaC w 48 #[.bool false,.slice none 0 0,.slice none 0 0]
 obtain ⟨ad,B,d,rfl,-,hc,ae,b1,B1,m1,d1,E1,u1,v1,rfl,-,h0,h1,h2,hq⟩:=h.place (Below.refl _ w) hi hj
 obtain ⟨g0,g1⟩:=(zac bx1 hk).c2
 have hc:=zab bx1 hc
 have h0:=zab bx1 h0
 have h1:=zab bx1 h1
 have h2:=zab bx1 h2
 have i1 : (0 : Int) ≤ (i : Int):=by omega
 have i2 : (i : Int) < (n : Int):=by omega
 have i3 : (0 : Int) ≤ (j : Int):=by omega
 have i4 : (j : Int) < (m : Int):=by omega
 obtain ⟨by1,by2,-⟩:=zaC w 48 #[.bool b1,.slice B1 m1 d1,.slice E1 u1 v1]
 obtain ⟨r0,r1,r2⟩:=by2.c3
 have HG:=lh9 (gq0 (hq.below by1) by1)
 clear hq bx1 bx2 bz by1 by2 h hk
 go_enter Tryz.func77,Tryz.ntmps77
 go_wp2
 refine bodyPost_ret (v:=.agg #[.bool b1,.slice B1 m1 d1,.slice E1 u1 v1]) (by simp [results,Tryz.results77,go_sem,r0,r1,r2]) rfl ?_
 exact HG.out
theorem zjK : ∀ (args : Array Value) (w' : World),Sem.run Tryz.prog (callFunc 87 args) w' = .ok (.enter 87 args) w':=Go.Proofs.enters_of Tryz.func87 (by kernel_rfl) rfl
theorem zkQ {g gv i j : Nat} {V : oA9} {cv : Nat} {xs : List Rat} (h : zat w A n c m M) (hk : Blk w g 28 #[.slice A n c,.int .i64 (m : Int)]) (hkv : Blk w gv 51 #[.slice V n cv]) (hv : zaD w V n cv xs) (hi : i < n) (hj : j < m + 1) :
  Calls Tryz.prog 87 #[.int .i64 (i : Int),.int .i64 (j : Int),.pointer (some ⟨g,0,none⟩),.pointer (some ⟨gv,0,none⟩)] w (zaI w (if j = m then xs.getD i 0 else atM M i j)):=by
 obtain ⟨bx1,bx2,bz⟩:=zaC w 48 #[.bool false,.slice none 0 0,.slice none 0 0]
 by_cases h1 : j = m
 ·have e1 : ((j : Int) == (m : Int)) = true:=by rw [beq_iff_eq]; omega
  rw [if_pos h1]
  obtain ⟨g0,g1⟩:=(zac bx1 hk).c2
  have y0:=(zac bx1 hkv).c1
  clear h1
  obtain ⟨ae,b1,B1,m1,d1,E1,u1,v1,rfl,-,h0,h2,h3,hq⟩:=hv.get (Below.refl _ w) hi
  have h0:=zab bx1 h0
  have h1:=zab bx1 h2
  have h2:=zab bx1 h3
  have i1 : (0 : Int) ≤ (i : Int):=by omega
  have i2 : (i : Int) < (n : Int):=by omega
  clear hkv
  obtain ⟨by1,by2,-⟩:=zaC w 48 #[.bool b1,.slice B1 m1 d1,.slice E1 u1 v1]
  obtain ⟨r0,r1,r2⟩:=by2.c3
  have HG:=lh9 (gq0 (hq.below by1) by1)
  clear hq bx1 bx2 bz by1 by2 h hk hv
  go_enter Tryz.func87,Tryz.ntmps87
  go_wp2
  refine bodyPost_ret (v:=.agg #[.bool b1,.slice B1 m1 d1,.slice E1 u1 v1]) (by simp [results,Tryz.results87,go_sem,r0,r1,r2]) rfl ?_
  exact HG.out
 ·have e1 : ((j : Int) == (m : Int)) = false:=by rw [beq_eq_false_iff_ne]; omega
  rw [if_neg h1]
  have hj : j < m:=by omega
  clear h1 hkv
  obtain ⟨ad,B,d,rfl,-,hc,ae,b1,B1,m1,d1,E1,u1,v1,rfl,-,h0,h1,h2,hq⟩:=h.place (Below.refl _ w) hi hj
  obtain ⟨g0,g1⟩:=(zac bx1 hk).c2
  have hc:=zab bx1 hc
  have h0:=zab bx1 h0
  have h1:=zab bx1 h1
  have h2:=zab bx1 h2
  have i1 : (0 : Int) ≤ (i : Int):=by omega
  have i2 : (i : Int) < (n : Int):=by omega
  have i3 : (0 : Int) ≤ (j : Int):=by omega
  have i4 : (j : Int) < (m : Int):=by omega
  obtain ⟨by1,by2,-⟩:=zaC w 48 #[.bool b1,.slice B1 m1 d1,.slice E1 u1 v1]
  obtain ⟨r0,r1,r2⟩:=by2.c3
  have HG:=lh9 (gq0 (hq.below by1) by1)
  clear hq bx1 bx2 bz by1 by2 h hk hv
  go_enter Tryz.func87,Tryz.ntmps87
  go_wp2
  refine bodyPost_ret (v:=.agg #[.bool b1,.slice B1 m1 d1,.slice E1 u1 v1]) (by simp [results,Tryz.results87,go_sem,r0,r1,r2]) rfl ?_
  exact HG.out
theorem zmW : ∀ (args : Array Value) (w' : World),Sem.run Tryz.prog (callFunc 88 args) w' = .ok (.enter 88 args) w':=Go.Proofs.enters_of Tryz.func88 (by kernel_rfl) rfl
theorem cl_nocol {g gc i j s : Nat} (h : zat w A n c m M) (hk : Blk w g 28 #[.slice A n c,.int .i64 (m : Int)]) (hkc : Blk w gc 3 #[.int .i64 (s : Int)]) (hi : i < n) (hj : j + 1 < m) (hm64 : m ≤ 64) :
  Calls Tryz.prog 88 #[.int .i64 (i : Int),.int .i64 (j : Int),.pointer (some ⟨gc,0,none⟩),.pointer (some ⟨g,0,none⟩)] w (zaI w (if j < s then atM M i j else atM M i (j + 1))):=by
 obtain ⟨bx1,bx2,bz⟩:=zaC w 48 #[.bool false,.slice none 0 0,.slice none 0 0]
 have y0:=(zac bx1 hkc).c1
 clear hkc
 by_cases h1 : j < s
 ·have e1 : decide ((j : Int) < (s : Int)) = true:=decide_eq_true (by omega)
  have e2 : decide (j < s) = true:=decide_eq_true h1
  rw [if_pos h1]
  have hj2 : j < m:=by omega
  clear h1
  obtain ⟨ad,B,d,rfl,-,hc,ae,b1,B1,m1,d1,E1,u1,v1,rfl,-,h0,h1,h2,hq⟩:=h.place (Below.refl _ w) hi hj2
  obtain ⟨g0,g1⟩:=(zac bx1 hk).c2
  have hc:=zab bx1 hc
  have h0:=zab bx1 h0
  have h1:=zab bx1 h1
  have h2:=zab bx1 h2
  have i1 : (0 : Int) ≤ (i : Int):=by omega
  have i2 : (i : Int) < (n : Int):=by omega
  have i3 : (0 : Int) ≤ (j : Int):=by omega
  have i4 : (j : Int) < (m : Int):=by omega
  obtain ⟨by1,by2,-⟩:=zaC w 48 #[.bool b1,.slice B1 m1 d1,.slice E1 u1 v1]
  obtain ⟨r0,r1,r2⟩:=by2.c3
  have HG:=lh9 (gq0 (hq.below by1) by1)
  clear hq bx1 bx2 bz by1 by2 h hk
  go_enter Tryz.func88,Tryz.ntmps88
  go_wp2
  refine bodyPost_ret (v:=.agg #[.bool b1,.slice B1 m1 d1,.slice E1 u1 v1]) (by simp [results,Tryz.results88,go_sem,r0,r1,r2]) rfl ?_
  exact HG.out
 ·have e1 : decide ((j : Int) < (s : Int)) = false:=decide_eq_false (by omega)
  have e2 : decide (j < s) = false:=decide_eq_false h1
  rw [if_neg h1]
  clear h1
  obtain ⟨ad,B,d,rfl,-,hc,ae,b1,B1,m1,d1,E1,u1,v1,rfl,-,h0,h1,h2,hq⟩:=h.place (Below.refl _ w) hi hj
  obtain ⟨g0,g1⟩:=(zac bx1 hk).c2
  have hc:=zab bx1 hc
  have h0:=zab bx1 h0
  have h1:=zab bx1 h1
  have h2:=zab bx1 h2
  have i1 : (0 : Int) ≤ (i : Int):=by omega
  have i2 : (i : Int) < (n : Int):=by omega
  have i3 : (0 : Int) ≤ (j : Int):=by omega
  have i4 : (j : Int) < (m : Int):=by omega
  have i5 : (0 : Int) ≤ (j : Int) + 1:=by omega
  have i6 : (j : Int) + 1 < (m : Int):=by omega
  obtain ⟨by1,by2,-⟩:=zaC w 48 #[.bool b1,.slice B1 m1 d1,.slice E1 u1 v1]
  obtain ⟨r0,r1,r2⟩:=by2.c3
  have HG:=lh9 (gq0 (hq.below by1) by1)
  clear hq bx1 bx2 bz by1 by2 h hk
  go_enter Tryz.func88,Tryz.ntmps88
  go_wp2
  refine bodyPost_ret (v:=.agg #[.bool b1,.slice B1 m1 d1,.slice E1 u1 v1]) (by simp [results,Tryz.results88,go_sem,r0,r1,r2]) rfl ?_
  exact HG.out
theorem en_of2 : ∀ (args : Array Value) (w' : World),Sem.run Tryz.prog (callFunc 91 args) w' = .ok (.enter 91 args) w':=Go.Proofs.enters_of Tryz.func91 (by kernel_rfl) rfl
theorem cl_of {gs i j : Nat} {Q : oA9} {q : Nat} (h : zaE (zaH zai) w Q n M) (hd : zbP M n m) (hk : Blk w gs 26 #[.slice Q n q]) (hi : i < n) (hj : j < m) : Calls Tryz.prog 91 #[.int .i64 (i : Int),.int .i64 (j : Int),.pointer (some ⟨gs,0,none⟩)] w (zaI w (atM M i j)):=by
 obtain ⟨bx1,bx2,bz⟩:=zaC w 48 #[.bool false,.slice none 0 0,.slice none 0 0]
 obtain ⟨ad,B,d,rfl,-,hc,hv⟩:=h.get (zaA zal) (Below.refl _ w) hi (hd.row hi)
 obtain ⟨ae,b1,B1,m1,d1,E1,u1,v1,rfl,-,h0,h1,h2,hq⟩:=zaD.get hv (Below.refl _ w) hj
 have hc:=zab bx1 hc
 have h0:=zab bx1 h0
 have h1:=zab bx1 h1
 have h2:=zab bx1 h2
 have g0:=(zac bx1 hk).c1
 have i1 : (0 : Int) ≤ (i : Int):=by omega
 have i2 : (i : Int) < (n : Int):=by omega
 have i3 : (0 : Int) ≤ (j : Int):=by omega
 have i4 : (j : Int) < (m : Int):=by omega
 obtain ⟨by1,by2,-⟩:=zaC w 48 #[.bool b1,.slice B1 m1 d1,.slice E1 u1 v1]
 obtain ⟨r0,r1,r2⟩:=by2.c3
 have HG:=lh9 (gq0 (hq.below by1) by1)
 clear hq bx1 bx2 bz by1 by2 h hk hv hd
 go_enter Tryz.func91,Tryz.ntmps91
 go_wp2
 refine bodyPost_ret (v:=.agg #[.bool b1,.slice B1 m1 d1,.slice E1 u1 v1]) (by simp [results,Tryz.results91,go_sem,r0,r1,r2]) rfl ?_
 exact HG.out
theorem en_of1 : ∀ (args : Array Value) (w' : World),Sem.run Tryz.prog (callFunc 89 args) w' = .ok (.enter 89 args) w':=Go.Proofs.enters_of Tryz.func89 (by kernel_rfl) rfl
theorem zmJ {gc k : Nat} {V : oA9} {cv : Nat} {z : Int} (hk : Blk w gc 3 #[.int .i64 z]) : Calls Tryz.prog 89 #[.slice V k cv,.pointer (some ⟨gc,0,none⟩)] w (fun e w' => e = .returned (.bool (!decide ((k : Int) = z))) ∧ Below w.heap.size w w'):=by
 have g0:=hk.c1
 obtain ⟨b,hb⟩ : ∃ b,(!decide ((k : Int) = z)) = b:=⟨_,rfl⟩
 have hb2 : ((k : Int) != z) = b:=by rw [← hb]; by_cases q : (k : Int) = z <;> simp [q]
 rw [hb]
 clear hk hb
 go_enter Tryz.func89,Tryz.ntmps89
 go_wp2
 go_ret
 exact ⟨rfl,Below.refl _ _⟩
theorem en_pick1 : ∀ (args : Array Value) (w' : World),Sem.run Tryz.prog (callFunc 92 args) w' = .ok (.enter 92 args) w':=Go.Proofs.enters_of Tryz.func92 (by kernel_rfl) rfl
theorem zkP {g : Nat} {z : Int} (hk : Blk w g 28 #[.slice A n c,.int .i64 (m : Int)]) : Calls Tryz.prog 92 #[.int .i64 z,.pointer (some ⟨g,0,none⟩)] w (fun e w' => e = .returned (.bool (!inB z m)) ∧ Below w.heap.size w w'):=by
 obtain ⟨g0,g1⟩:=hk.c2
 have H:=fun W => lh9 (zhi A n c m z W)
 clear hk
 go_enter Tryz.func92,Tryz.ntmps92
 go_wp2_with fail
 refine (H _).out.mono ?_
 rintro e w1 ⟨rfl,hb⟩
 have HB:=lh9 hb
 clear hb
 go_wp2
 go_ret
 exact ⟨rfl,HB.out⟩
theorem en_pick2 : ∀ (args : Array Value) (w' : World),Sem.run Tryz.prog (callFunc 94 args) w' = .ok (.enter 94 args) w':=Go.Proofs.enters_of Tryz.func94 (by kernel_rfl) rfl
theorem cl_pick {g gs i j k q qc : Nat} {ap : Addr} (h : zat w A n c m M) (hk : Blk w g 28 #[.slice A n c,.int .i64 (m : Int)]) (hks : Blk w gs 63 #[.slice (some ap) q qc]) (hz : w.cell? (ap.add j) = some (.int .i64 (k : Int))) (hi : i < n) (hj : j < q) (hk9 : k < m) :
  Calls Tryz.prog 94 #[.int .i64 (i : Int),.int .i64 (j : Int),.pointer (some ⟨g,0,none⟩),.pointer (some ⟨gs,0,none⟩)] w (zaI w (atM M i k)):=by
 obtain ⟨bx1,bx2,bz⟩:=zaC w 48 #[.bool false,.slice none 0 0,.slice none 0 0]
 obtain ⟨ad,B,d,rfl,hl1,hc,ae,b1,B1,m1,d1,E1,u1,v1,rfl,hl2,h0,h1,h2,hq⟩:=h.place (Below.refl _ _) hi hk9
 have hl3:=hk.lt
 have hl4:=hks.lt
 have hl5 : (ap.add j).block < w.heap.size:=World.block_lt_of_cell? w _ hz
 obtain ⟨g0,g1⟩:=(zac bx1 hk).c2
 have y0:=(zac bx1 hks).c1
 have y1:=zab bx1 hz
 have z0:=zab bx1 hc
 have z1:=zab bx1 h0
 have z2:=zab bx1 h1
 have z3:=zab bx1 h2
 have hq1:=hq.below bx1
 have i1 : (0 : Int) ≤ (i : Int):=by omega
 have i2 : (i : Int) < (n : Int):=by omega
 have i3 : (0 : Int) ≤ (j : Int):=by omega
 have i4 : (j : Int) < (q : Int):=by omega
 have i5 : (0 : Int) ≤ (k : Int):=by omega
 have i6 : (k : Int) < (m : Int):=by omega
 have HQ:=lh9 hq1
 have HB:=lh9 bx1
 have HK:=lh9 bx2
 clear h hk hks hz hc h0 h1 h2 hq hq1 bx1 bx2 bz
 go_enter Tryz.func94,Tryz.ntmps94
 go_wp2_with fail
 generalize w.alloc (.cells #[.bool false,.slice none 0 0,.slice none 0 0] 48) = W1 at *
 have hBw:=(Below.refl W1.heap.size W1).drew
 refine rg (csc g0 (csc z0 (csc y0 (csc y1 (csc z1 (csc z2 (csc z3 csn))))))) (fun hHeld => ?_)
 clear g0 g1 z0 y0 y1 z1 z2 z3
 generalize W1.drew = D at *
 refine tk 0 ?_
 refine tk 1 ?_
 refine tk 2 ?_
 refine tk 3 ?_
 refine tk 4 ?_
 refine tk 5 ?_
 refine tk 6 ?_
 refine tk 7 ?_
 refine tk 8 ?_
 refine tk 9 ?_
 refine tk 10 ?_
 have kr:=zac hBw HK.out
 obtain ⟨sc0,sf0,sc1,sf1,sc2,sf2⟩:=st3 kr (.bool b1) (.slice B1 m1 d1)
 obtain ⟨r0,r1,r2⟩:=(sn3 kr (.bool b1) (.slice B1 m1 d1) (.slice E1 u1 v1)).c3
 have HG:=lh9 (gq3 (HQ.out.below hBw) kr (zaa HB.out hBw) (by omega))
 refine rc 11 (fun KK hK => ?_)
 go_simp
 refine hK.out _ _ ?_ (fun hHeld => ?_)
 ·refine Cs.far hHeld (off3 _ _ _ _ _) ?_
  refine ⟨?_,?_,?_,?_,?_,?_,?_,trivial⟩ <;> (simp only [zao]; simp only [zao] at hl5; omega)
 clear hK KK
 refine rdn ?_
 clear sc0 sf0 sc1 sf1 sc2 sf2 hHeld kr
 go_wp2
 refine bodyPost_ret (v:=.agg #[.bool b1,.slice B1 m1 d1,.slice E1 u1 v1]) (by simp [results,Tryz.results94,go_sem,r0,r1,r2]) rfl ?_
 exact HG.out
end
end Go.Proofs.YtedbgdlbgohiiaaGreatDoor
