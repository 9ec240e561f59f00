/- What this claim leans on. -/
import Derived.Test.YtghpdeciaaagnaaGreatDoorIBunT
namespace Go.Proofs.YtghpdeciaaagnaaGreatDoor
open Go Go.RowKit
set_option maxHeartbeats 16000000
set_option maxRecDepth 100000
set_option linter.unusedVariables false
set_option linter.unusedSimpArgs false
def zba (s:Bool)(x:Nat):Int:=if s then -(x:Int) else(x:Int)
theorem zeb (s:Bool)(x:Nat):(zba s x).natAbs=x:=by unfold zba;split<;>omega
theorem sgnI_neg (s:Bool)(x:Nat):decide (zba s x<0)=(s&&decide (x≠0)):=by unfold zba;cases s<;>simp [Nat.pos_iff_ne_zero]
theorem zoq {w:World}{x:Nat}{A:oA9}{n c:Nat}(s:Bool)(h:zad w x A n c):zaG w (zba s x) (s&&decide (x≠0)) A n c:=⟨(sgnI_neg s x).symm,by rw [zeb];exact h⟩
theorem zfE (x:Nat)(A:oA9)(n c:Nat)(w:World)(hA:zad w x A n c)(hn:n<=1099511627776):
  Calls Tryz.prog 161 #[.agg #[.slice A n c]] w (zaO w x):=by
 obtain⟨hB,b2,k3,b5⟩:=zbI w 37 37 #[.slice A n c] #[.slice none 0 0]
 have HWD:=lh9 (zdo x A n c _ (hA.below hB) hn)
 have hln:=hA.len
 have HOF:Hid (∀w' A' c',zas w' w'.heap.size 1 A' n (zaA .u64 (dg 18446744073709551616 x))->n<=c'->c'<=9223372036854775807->Calls Tryz.prog 149 #[.slice A' n c'] w' (zaO w' x)):=λw' A' c' hr h1 h2=>by
  have h:=zcT A' n c' _ w' hr (zcS (by decide) x) h1 h2 hn
  rwa [zdz (by decide)] at h
 clear hA
 go_enter Tryz.func161,Tryz.ntmps161
 go_wp2_with fail
 generalize (w.alloc (.cells #[.slice A n c] 37)).alloc (.cells #[.slice none 0 0] 37)=W0 at*
 have g1:W0.cell? ⟨w.heap.size,0,none⟩=some (.slice A n c):=b2.cell 0
 clear b2 b5
 refine HWD.out.mono ?_
 intro e w1 hg
 obtain⟨A1,c1,rfl,hr1,h1,h2,hb⟩:=hg
 rw [hln] at hr1 h1⊢
 have hk1:=zaa hb k3
 have hB1:=zab hB hb
 have HO2:=lh9 (HOF.out w1 A1 c1 hr1 h1 h2.1)
 clear hb k3 hB HWD hr1 h1 h2 g1 HOF hln
 go_wp2_with fail
 refine HO2.out.mono ?_
 rintro e w2 ⟨A2,n2,c2,rfl,hw2,hb,hf⟩
 have hk2:=zaa hb hk1
 have hB2:=zab hB1 hb
 have r0:=(zfy hk2 (.slice A2 n2 c2)).cell 0
 have c0:=hk2.cell 0
 have f0:=hk2.frozen 0
 have HG : Hid (zaO w x (.returned (.agg #[.slice A2 n2 c2])) (w2.setCell ⟨w.heap.size + 1,0,none⟩ (.slice A2 n2 c2))) :=
  ⟨_,_,_,rfl,zev hw2 hk2 _,zae _ (by dsimp only;omega) hB2,hf.from_ hB1⟩
 clear hk2 hB2 hf hw2 hb hk1 hB1 HO2
 go_wp2
 refine bodyPost_ret (v:=.agg #[.slice A2 n2 c2]) (by simp [results,Tryz.results161,go_sem,r0]) rfl ?_
 exact HG.out
theorem zcz (s:Bool)(x:Nat)(A:oA9)(n c:Nat)(w:World)(hA:zad w x A n c):
  Calls Tryz.prog 158 #[.bool s,.agg #[.slice A n c]] w (zbc w (zba s x)):=by
 obtain⟨hB,b2,k3,b5⟩:=zbI w 37 39 #[.slice A n c] #[.bool false,.slice none 0 0]
 have hw:=hA.below hB
 have HI:=lh9 (λw' (h:Below w.heap.size w w')=>zoq s (hA.below h))
 have HZ:=lh9 (λw' (h:Below w.heap.size w w')=>show Calls Tryz.prog 150 #[.agg #[.slice A n c]] w' λe w''=>e=.returned (.bool (decide (x=0)))/\Below w'.heap.size w' w'' from by
  by_cases hx:x=0
  ·rw [decide_eq_true hx];exact zee hx (hA.below h)
  ·rw [decide_eq_false hx];exact zer hx (hA.below h))
 have hd:(!decide (x=0))=decide (x≠0):=by simp
 obtain⟨d,hd1⟩:∃d,decide (x=0)=d:=⟨_,rfl⟩
 rw [hd1] at HZ hd
 rw [<-hd] at HI
 clear hA hd hd1
 cases s
 ·skip
  go_enter Tryz.func158,Tryz.ntmps158
  go_wp2_with fail
  generalize (w.alloc (.cells #[.slice A n c] 37)).alloc (.cells #[.bool false,.slice none 0 0] 39)=W0 at*
  have g1:W0.drew.cell? ⟨w.heap.size,0,none⟩=some (.slice A n c):=b2.cell 0
  have hb0:=hB.drew
  have hk0:=k3.drew
  clear b2 b5 hw hB k3
  have hw3:=HI.out _ hb0
  rw [Bool.false_and] at hw3
  have c0:W0.cell? ⟨w.heap.size+1,0,none⟩=some (.bool false):=hk0.cell 0
  have f0:W0.frozen? ⟨w.heap.size+1,0,none⟩=false:=hk0.frozen 0
  have c1:(W0.setCell ⟨w.heap.size+1,0,none⟩ (.bool false)).cell? ⟨w.heap.size+1,1,none⟩=some (.slice none 0 0):=(hk0.set_ 0 (.bool false)).cell 1
  have f1:(W0.setCell ⟨w.heap.size+1,0,none⟩ (.bool false)).frozen? ⟨w.heap.size+1,1,none⟩=false:=(hk0.set_ 0 (.bool false)).frozen 1
  refine wp_region_noPanic ?_
  refine wp_region_held_drew (S:=(λw'=>Below w.heap.size w w'/\w'.cell? ⟨w.heap.size,0,none⟩=some (.slice A n c))) (by kernel_rfl) ?_ (λhHeld=>?_)
  ·exact⟨hb0,g1⟩
  refine wtk9 0 (v:=?_) ?_ ?_
  rotate_left
  focus ((intro w hSw;(try dsimp only at hSw);go_simp);(try with_reducible rfl))
  try simp only [Act.put,List.setIfInBounds_toArray,List.set_cons_zero,List.set_cons_succ]
  refine wtk9 1 (v:=?_) ?_ ?_
  rotate_left
  focus ((intro w hSw;(try dsimp only at hSw);go_simp);(try with_reducible rfl))
  try simp only [Act.put,List.setIfInBounds_toArray,List.set_cons_zero,List.set_cons_succ]
  refine wpAnyH_take (i:=2) (oi:=?_) (v:=undef) (by simp only [List.getElem?_toArray,List.getElem?_cons_succ,List.getElem?_cons_zero];rfl) (by kernel_rfl) (by kernel_rfl) (by kernel_rfl) (λ_ _ _ h=>h) (Or.inr ⟨by rfl,rfl⟩) (by with_reducible assumption) ?_
  try simp only [Act.put,List.setIfInBounds_toArray,List.set_cons_zero,List.set_cons_succ]
  refine wpAnyH_take (i:=3) (oi:=?_) (v:=undef) (by simp only [List.getElem?_toArray,List.getElem?_cons_succ,List.getElem?_cons_zero];rfl) (by kernel_rfl) (by kernel_rfl) (by kernel_rfl) (λ_ _ _ h=>h) (Or.inr ⟨by rfl,rfl⟩) (by with_reducible assumption) ?_
  try simp only [Act.put,List.setIfInBounds_toArray,List.set_cons_zero,List.set_cons_succ]
  refine wpAnyH_take (i:=4) (oi:=?_) (v:=undef) (by simp only [List.getElem?_toArray,List.getElem?_cons_succ,List.getElem?_cons_zero];rfl) (by kernel_rfl) (by kernel_rfl) (by kernel_rfl) (λ_ _ _ h=>h) (Or.inr ⟨by rfl,rfl⟩) (by with_reducible assumption) ?_
  try simp only [Act.put,List.setIfInBounds_toArray,List.set_cons_zero,List.set_cons_succ]
  refine wtk9 5 (v:=?_) ?_ ?_
  rotate_left
  focus ((intro w hSw;(try dsimp only at hSw);go_simp);(try with_reducible rfl))
  try simp only [Act.put,List.setIfInBounds_toArray,List.set_cons_zero,List.set_cons_succ]
  refine wtk9 6 (v:=?_) ?_ ?_
  rotate_left
  focus ((intro w hSw;(try dsimp only at hSw);go_simp);(try with_reducible rfl))
  try simp only [Act.put,List.setIfInBounds_toArray,List.set_cons_zero,List.set_cons_succ]
  refine wtk9 7 (v:=?_) ?_ ?_
  rotate_left
  focus ((intro w hSw;(try dsimp only at hSw);go_simp);(try with_reducible rfl))
  try simp only [Act.put,List.setIfInBounds_toArray,List.set_cons_zero,List.set_cons_succ]
  refine wpAnyH_ready (rs:=[8]) (by kernel_rfl) (by simp) ?_
  refine arc9 (λK hK=>?_)
  go_simp
  skip
  refine hK.out _ _ ?_ (λhHeld=>?_)
  ·((try dsimp only);exact⟨zae (p:=⟨w.heap.size+1,1,none⟩) _ (by dsimp only;omega) (zae (p:=⟨w.heap.size+1,0,none⟩) _ (by dsimp only;omega) hb0),zag (q:=⟨w.heap.size+1,1,none⟩) _ (by dsimp only;omega) (zag (q:=⟨w.heap.size+1,0,none⟩) _ (by dsimp only;omega) g1)⟩)
  clear hK K
  try simp only [Act.put,List.setIfInBounds_toArray,List.set_cons_zero,List.set_cons_succ]
  refine wpAnyH_done (by kernel_rfl) ?_ _
  refine NoPanic.normal ?_
  have hk9:=(hk0.set_ 0 (.bool false)).set_ 1 (.slice A n c)
  have r0:((W0.setCell ⟨w.heap.size+1,0,none⟩ (.bool false)).setCell ⟨w.heap.size+1,1,none⟩ (.slice A n c)).cell? ⟨w.heap.size+1,0,none⟩=some (.bool false):=hk9.cell 0
  have r1:((W0.setCell ⟨w.heap.size+1,0,none⟩ (.bool false)).setCell ⟨w.heap.size+1,1,none⟩ (.slice A n c)).cell? ⟨w.heap.size+1,1,none⟩=some (.slice A n c):=hk9.cell 1
  have hwz:=zbx hw3 hk0 false A n c
  have hbz:=zae (p:=⟨w.heap.size+1,1,none⟩) (.slice A n c) (by dsimp only;omega) (zae (p:=⟨w.heap.size+1,0,none⟩) (.bool false) (by dsimp only;omega) hb0)
  have HG : Hid (zbc w (zba false x) (.returned (.agg #[.bool false,.slice A n c])) (((W0.setCell ⟨w.heap.size + 1,0,none⟩ (.bool false)).setCell ⟨w.heap.size + 1,1,none⟩ (.slice A n c)).drew)) :=
   ⟨_,_,_,_,rfl,hwz,hbz⟩
  clear hk9 hwz hbz c0 c1 f0 f1 hk0 hb0 hw3 HI HZ g1
  go_wp2
  refine bodyPost_ret (v:=.agg #[.bool false,.slice A n c]) (by simp [results,Tryz.results158,go_sem,r0,r1]) rfl ?_
  exact HG.out
 ·skip
  go_enter Tryz.func158,Tryz.ntmps158
  go_wp2_with fail
  generalize (w.alloc (.cells #[.slice A n c] 37)).alloc (.cells #[.bool false,.slice none 0 0] 39)=W0 at*
  have g1:W0.drew.cell? ⟨w.heap.size,0,none⟩=some (.slice A n c):=b2.cell 0
  have hb0:=hB.drew
  have hk0:=k3.drew
  clear b2 b5 hw hB k3
  go_region_held3 (fun w' => Below w.heap.size w w' ∧ w'.cell? ⟨w.heap.size,0,none⟩ = some (.slice A n c))
   (first|(exact⟨hb0,g1⟩)|(go_split_ands;(repeat' apply And.intro);all_goals (first|with_reducible assumption|exact zab (by with_reducible assumption) hb|exact zac hb (by with_reducible assumption)|exact zae _ (by dsimp only;omega) (zae _ (by dsimp only;omega) (by with_reducible assumption))|exact zag _ (by dsimp only;omega) (zag _ (by dsimp only;omega) (by with_reducible assumption))|exact zae _ (by dsimp only;omega) (by with_reducible assumption)|exact zag _ (by dsimp only;omega) (by with_reducible assumption))))
   (first
     |(go_at_call 150;(with_reducible refine(HZ.out _ (by first|with_reducible assumption|exact And.left (by with_reducible assumption))).mono ?_);rintro e w2 ⟨rfl,hb⟩;go_split_ands;have hbb:Below w.heap.size w w2:=zab (by with_reducible assumption) hb;have hk2:=zaa hb hk0;have c0:=hk2.cell 0;have f0:=hk2.frozen 0;have c1:(w2.setCell ⟨w.heap.size+1,0,none⟩ (.bool (!d))).cell? ⟨w.heap.size+1,1,none⟩=some (.slice none 0 0):=(hk2.set_ 0 (.bool (!d))).cell 1;have f1:=(hk2.set_ 0 (.bool (!d))).frozen 1))
  have hw3:=HI.out _ hbb
  rw [Bool.true_and] at hw3
  have hk9:=(hk2.set_ 0 (.bool (!d))).set_ 1 (.slice A n c)
  have r0:=hk9.cell 0
  have r1:=hk9.cell 1
  have c0:=hk2.cell 0
  have f0:=hk2.frozen 0
  have c1:(w2.setCell ⟨w.heap.size+1,0,none⟩ (.bool (!d))).cell? ⟨w.heap.size+1,1,none⟩=some (.slice none 0 0):=(hk2.set_ 0 (.bool (!d))).cell 1
  have f1:=(hk2.set_ 0 (.bool (!d))).frozen 1
  have hwz:=zbx hw3 hk2 (!d) A n c
  have hbz:=zae (p:=⟨w.heap.size+1,1,none⟩) (.slice A n c) (by dsimp only;omega) (zae (p:=⟨w.heap.size+1,0,none⟩) (.bool (!d)) (by dsimp only;omega) hbb)
  have HG : Hid (zbc w (zba true x) (.returned (.agg #[.bool (!d),.slice A n c])) ((w2.setCell ⟨w.heap.size + 1,0,none⟩ (.bool (!d))).setCell ⟨w.heap.size + 1,1,none⟩ (.slice A n c))) :=
   ⟨_,_,_,_,rfl,hwz,hbz⟩
  clear hk9 hwz hbz hk2 hk0 hbb hw3 hb0 hb HI HZ g1
  go_wp2
  refine bodyPost_ret (v:=.agg #[.bool (!d),.slice A n c]) (by simp [results,Tryz.results158,go_sem,r0,r1]) rfl ?_
  exact HG.out
theorem zgl (z:Int):zba (decide (z<0)) z.natAbs=z:=by unfold zba;by_cases h:z<0<;>simp [h]<;>omega
theorem zmU (s:Bool)(x:Nat)(A:oA9)(n c:Nat)(w:World)(hA:zad w x A n c)(hn:n<=1099511627776):
  Calls Tryz.prog 163 #[.bool s,.agg #[.slice A n c]] w (zbc w (zba s x)):=by
 obtain⟨hB,b2,k3,b5⟩:=zbI w 37 39 #[.slice A n c] #[.bool false,.slice none 0 0]
 have HC:=lh9 (zfE x A n c _ (hA.below hB) hn)
 have HS:=lh9 (λw' A n c (h:zad w' x A n c)=>zcz s x A n c w' h)
 clear hA
 go_enter Tryz.func163,Tryz.ntmps163
 go_wp2_with fail
 generalize (w.alloc (.cells #[.slice A n c] 37)).alloc (.cells #[.bool false,.slice none 0 0] 39)=W0 at*
 have g1:W0.cell? ⟨w.heap.size,0,none⟩=some (.slice A n c):=b2.cell 0
 clear b2 b5
 refine HC.out.mono ?_
 rintro e w1 ⟨A1,n1,c1,rfl,hw1,hb,hf⟩
 have hk1:=zaa hb k3
 have hB1:=zab hB hb
 have HS1:=lh9 (HS.out _ _ _ _ hw1)
 clear hb hf hw1 g1 k3 hB HC HS
 go_wp2_with fail
 refine HS1.out.mono ?_
 rintro e w2 ⟨b3,A3,n3,c3,rfl,hw3,hb⟩
 have hk2:=zaa hb hk1
 have hbb:=zab hB1 hb
 have hk9:=(hk2.set_ 0 (.bool b3)).set_ 1 (.slice A3 n3 c3)
 have r0:=hk9.cell 0
 have r1:=hk9.cell 1
 have c0:=hk2.cell 0
 have f0:=hk2.frozen 0
 have c1:(w2.setCell ⟨w.heap.size+1,0,none⟩ (.bool b3)).cell? ⟨w.heap.size+1,1,none⟩=some (.slice none 0 0):=(hk2.set_ 0 (.bool b3)).cell 1
 have f1:=(hk2.set_ 0 (.bool b3)).frozen 1
 have hwz:=zbx hw3 hk2 b3 A3 n3 c3
 have hbz:=zae (p:=⟨w.heap.size+1,1,none⟩) (.slice A3 n3 c3) (by dsimp only;omega) (zae (p:=⟨w.heap.size+1,0,none⟩) (.bool b3) (by dsimp only;omega) hbb)
 have HG : Hid (zbc w (zba s x) (.returned (.agg #[.bool b3,.slice A3 n3 c3])) ((w2.setCell ⟨w.heap.size + 1,0,none⟩ (.bool b3)).setCell ⟨w.heap.size + 1,1,none⟩ (.slice A3 n3 c3))) :=
  ⟨_,_,_,_,rfl,hwz,hbz⟩
 clear hk9 hwz hbz hk2 hbb hw3 hb hk1 hB1 HS1
 go_wp2
 refine bodyPost_ret (v:=.agg #[.bool b3,.slice A3 n3 c3]) (by simp [results,Tryz.results163,go_sem,r0,r1]) rfl ?_
 exact HG.out
theorem zmQ (z:Int)(b:Bool)(A:oA9)(n c:Nat)(w:World)(hA:zaG w z b A n c)(hn:n<=1099511627776):
  Calls Tryz.prog 104 #[.agg #[.bool b,.slice A n c]] w (zaO w z.natAbs):=by
 obtain⟨hB,b2,k3,b5⟩:=zbI w 39 37 #[.bool b,.slice A n c] #[.slice none 0 0]
 have HC:=lh9 (zfE z.natAbs A n c _ (hA.2.below hB) hn)
 obtain⟨x,hx⟩:∃x,z.natAbs=x:=⟨_,rfl⟩
 rw [hx] at HC⊢
 clear hA hx
 go_enter Tryz.func104,Tryz.ntmps104
 go_wp2_with fail
 generalize (w.alloc (.cells #[.bool b,.slice A n c] 39)).alloc (.cells #[.slice none 0 0] 37)=W0 at*
 have g1:W0.cell? ⟨w.heap.size,1,none⟩=some (.slice A n c):=b2.cell 1
 clear b2 b5
 go_wp2_with fail
 refine HC.out.mono ?_
 rintro e w2 ⟨A2,n2,c2,rfl,hw2,hb,hf⟩
 have hk2:=zaa hb k3
 have hB2:=zab hB hb
 have r0:=(zfy hk2 (.slice A2 n2 c2)).cell 0
 have c0:=hk2.cell 0
 have f0:=hk2.frozen 0
 have HG : Hid (zaO w x (.returned (.agg #[.slice A2 n2 c2])) (w2.setCell ⟨w.heap.size + 1,0,none⟩ (.slice A2 n2 c2))) :=
  ⟨_,_,_,rfl,zev hw2 hk2 _,zae _ (by dsimp only;omega) hB2,hf.from_ hB⟩
 clear hk2 hB2 hf hw2 hb hB HC k3 g1
 go_wp2
 refine bodyPost_ret (v:=.agg #[.slice A2 n2 c2]) (by simp [results,Tryz.results104,go_sem,r0]) rfl ?_
 exact HG.out
theorem zkt (z:Int)(b:Bool)(A:oA9)(n c:Nat)(w:World)(hA:zaG w z b A n c):
  Calls Tryz.prog 107 #[.agg #[.bool b,.slice A n c]] w λe w'=>e=.returned (.bool (decide (z<0)))/\Below w.heap.size w w':=by
 obtain⟨hB,b2,b5⟩:=zav w 39 #[.bool b,.slice A n c]
 rw [<-hA.1]
 clear hA
 have g0:(w.alloc (.cells #[.bool b,.slice A n c] 39)).cell? ⟨w.heap.size,0,none⟩=some (.bool b):=b2.cell 0
 clear b2 b5
 go_enter Tryz.func107,Tryz.ntmps107
 go_wp2
 go_ret
 exact⟨rfl,hB⟩
theorem zlM (z:Int)(b:Bool)(A:oA9)(n c:Nat)(w:World)(hA:zaG w z b A n c):
  Calls Tryz.prog 134 #[.agg #[.bool b,.slice A n c]] w (zcH w (ziB z)):=by
 obtain⟨hB,b2,b5⟩:=zav w 39 #[.bool b,.slice A n c]
 have hbz:=hA.1
 have hK:(b=true/\ziB z= -1)\/(b=false/\z.natAbs=0/\ziB z=0)\/(b=false/\z.natAbs≠0/\ziB z=1):=by
  unfold ziB
  by_cases h:z<0
  ·exact .inl ⟨by rw [hbz,decide_eq_true h],by rw [if_pos h]⟩
  ·by_cases h0:z=0
   ·exact .inr (.inl ⟨by rw [hbz,decide_eq_false h],by omega,by rw [if_neg h,if_pos h0]⟩)
   ·exact .inr (.inr ⟨by rw [hbz,decide_eq_false h],by omega,by rw [if_neg h,if_neg h0]⟩)
 have HW:=lh9 (λw' (h:Below w.heap.size w w')=>hA.2.below h)
 clear hA hbz
 rcases hK with⟨rfl,hs⟩|⟨rfl,hz,hs⟩|⟨rfl,hz,hs⟩
 ·skip
  rw [hs]
  clear HW hs 
  have g0:(w.alloc (.cells #[.bool true,.slice A n c] 39)).cell? ⟨w.heap.size,0,none⟩=some (.bool true):=b2.cell 0
  have g1:(w.alloc (.cells #[.bool true,.slice A n c] 39)).cell? ⟨w.heap.size,1,none⟩=some (.slice A n c):=b2.cell 1
  clear b2 b5
  go_enter Tryz.func134,Tryz.ntmps134
  go_wp2
  go_ret
  exact⟨rfl,hB⟩
 ·skip
  have HZ:=lh9 (zee hz (HW.out _ hB))
  rw [hs]
  clear HW hs hz
  have g0:(w.alloc (.cells #[.bool false,.slice A n c] 39)).cell? ⟨w.heap.size,0,none⟩=some (.bool false):=b2.cell 0
  have g1:(w.alloc (.cells #[.bool false,.slice A n c] 39)).cell? ⟨w.heap.size,1,none⟩=some (.slice A n c):=b2.cell 1
  clear b2 b5
  go_enter Tryz.func134,Tryz.ntmps134
  go_wp2_with fail
  refine HZ.out.mono ?_
  rintro e w1 ⟨rfl,hb⟩
  have hB1:=zab hB hb
  clear hb hB g0 g1 HZ
  go_wp2
  go_ret
  exact⟨rfl,hB1⟩
 ·skip
  have HZ:=lh9 (zer hz (HW.out _ hB))
  rw [hs]
  clear HW hs hz
  have g0:(w.alloc (.cells #[.bool false,.slice A n c] 39)).cell? ⟨w.heap.size,0,none⟩=some (.bool false):=b2.cell 0
  have g1:(w.alloc (.cells #[.bool false,.slice A n c] 39)).cell? ⟨w.heap.size,1,none⟩=some (.slice A n c):=b2.cell 1
  clear b2 b5
  go_enter Tryz.func134,Tryz.ntmps134
  go_wp2_with fail
  refine HZ.out.mono ?_
  rintro e w1 ⟨rfl,hb⟩
  have hB1:=zab hB hb
  clear hb hB g0 g1 HZ
  go_wp2
  go_ret
  exact⟨rfl,hB1⟩
theorem of_lit1 (x:Nat)(w:World)(r:Nat)(hx:x<18446744073709551616)(hk:Blk w r 160 #[.int .u64 (x:Int)]):Calls Tryz.prog 149 #[.slice (some ⟨r,0,none⟩) 1 1] w (zaO w x):=
 zpE _ [x] w r 1 _ hk rfl rfl (dgs1 _ hx) (by simp [dv]) (by decide)
theorem zor (z:Int)(w:World)(h1: -9223372036854775808<=z)(h2:z<=9223372036854775807):
  Calls Tryz.prog 127 #[.int .i64 z] w (zbc w z):=by
 obtain⟨hB,k3,b5⟩:=zav w 39 #[.bool false,.slice none 0 0]
 obtain⟨x,hx⟩:∃x,z.natAbs=x:=⟨_,rfl⟩
 have hxl:x<18446744073709551616:=by omega
 have HOF:=lh9 (λw' r hk=>of_lit1 x w' r hxl hk)
 by_cases hz:z<0
 ·skip
  have e1:IntKind.u64.wrap z=18446744073709551616 - (x:Int):=by simp [IntKind.wrap,IntKind.bits,IntKind.signed];omega
  have e2:IntKind.u64.wrap (-(18446744073709551616 - (x:Int)))=(x:Int):=by simp [IntKind.wrap,IntKind.bits,IntKind.signed];omega
  have HI:Hid (∀w' A n c,zad w' x A n c->zaG w' z true A n c):=λw' A n c h=>⟨by simp [hz],by rw [hx];exact h⟩
  have HO2:=lh9 (HOF.out _ _ (zbI w 39 160 #[.bool false,.slice none 0 0] #[.int .u64 (x:Int)]).2.2.1)
  clear hx HOF
  go_enter Tryz.func127,Tryz.ntmps127
  go_wp2_with fail
  generalize w.alloc (.cells #[.bool false,.slice none 0 0] 39)=W0 at*
  clear b5
  have hb1:=zaj (.cells #[.int .u64 (x:Int)] 160) hB
  refine HO2.out.mono ?_
  rintro e w2 ⟨A2,n2,c2,rfl,hw2,hb,_⟩
  have hbb:=zab hb1 hb
  have hk2:=zaa hb (k3.alloc (.cells #[.int .u64 (x:Int)] 160))
  have hw3:=HI.out _ _ _ _ hw2
  clear hb hb1 HO2 k3 hB hw2 HI
  have hk9:=(hk2.set_ 0 (.bool true)).set_ 1 (.slice A2 n2 c2)
  have r0:=hk9.cell 0
  have r1:=hk9.cell 1
  have c0:=hk2.cell 0
  have f0:=hk2.frozen 0
  have c1:(w2.setCell ⟨w.heap.size,0,none⟩ (.bool true)).cell? ⟨w.heap.size,1,none⟩=some (.slice none 0 0):=(hk2.set_ 0 (.bool true)).cell 1
  have f1:=(hk2.set_ 0 (.bool true)).frozen 1
  have hwz:=zbx hw3 hk2 true A2 n2 c2
  have hbz:=zae (p:=⟨w.heap.size,1,none⟩) (.slice A2 n2 c2) (by dsimp only;omega) (zae (p:=⟨w.heap.size,0,none⟩) (.bool true) (by dsimp only;omega) hbb)
  have HG : Hid (zbc w (z) (.returned (.agg #[.bool true,.slice A2 n2 c2])) ((w2.setCell ⟨w.heap.size,0,none⟩ (.bool true)).setCell ⟨w.heap.size,1,none⟩ (.slice A2 n2 c2))) :=
   ⟨_,_,_,_,rfl,hwz,hbz⟩
  clear hk9 hwz hbz hk2 hbb hw3
  go_wp2
  refine bodyPost_ret (v:=.agg #[.bool true,.slice A2 n2 c2]) (by simp [results,Tryz.results127,go_sem,r0,r1]) rfl ?_
  exact HG.out
 ·skip
  have e1:IntKind.u64.wrap z=(x:Int):=by simp [IntKind.wrap,IntKind.bits,IntKind.signed];omega
  have i1:0<=z:=by omega
  have HI:Hid (∀w' A n c,zad w' x A n c->zaG w' z false A n c):=λw' A n c h=>⟨by simp [hz],by rw [hx];exact h⟩
  have HO2:=lh9 (HOF.out _ _ (zbI w 39 160 #[.bool false,.slice none 0 0] #[.int .u64 (x:Int)]).2.2.1)
  clear hx HOF
  go_enter Tryz.func127,Tryz.ntmps127
  go_wp2_with fail
  generalize w.alloc (.cells #[.bool false,.slice none 0 0] 39)=W0 at*
  clear b5
  have hb1:=zaj (.cells #[.int .u64 (x:Int)] 160) hB
  refine HO2.out.mono ?_
  rintro e w2 ⟨A2,n2,c2,rfl,hw2,hb,_⟩
  have hbb:=zab hb1 hb
  have hk2:=zaa hb (k3.alloc (.cells #[.int .u64 (x:Int)] 160))
  have hw3:=HI.out _ _ _ _ hw2
  clear hb hb1 HO2 k3 hB hw2 HI
  have hk9:=(hk2.set_ 0 (.bool false)).set_ 1 (.slice A2 n2 c2)
  have r0:=hk9.cell 0
  have r1:=hk9.cell 1
  have c0:=hk2.cell 0
  have f0:=hk2.frozen 0
  have c1:(w2.setCell ⟨w.heap.size,0,none⟩ (.bool false)).cell? ⟨w.heap.size,1,none⟩=some (.slice none 0 0):=(hk2.set_ 0 (.bool false)).cell 1
  have f1:=(hk2.set_ 0 (.bool false)).frozen 1
  have hwz:=zbx hw3 hk2 false A2 n2 c2
  have hbz:=zae (p:=⟨w.heap.size,1,none⟩) (.slice A2 n2 c2) (by dsimp only;omega) (zae (p:=⟨w.heap.size,0,none⟩) (.bool false) (by dsimp only;omega) hbb)
  have HG : Hid (zbc w (z) (.returned (.agg #[.bool false,.slice A2 n2 c2])) ((w2.setCell ⟨w.heap.size,0,none⟩ (.bool false)).setCell ⟨w.heap.size,1,none⟩ (.slice A2 n2 c2))) :=
   ⟨_,_,_,_,rfl,hwz,hbz⟩
  clear hk9 hwz hbz hk2 hbb hw3
  go_wp2
  refine bodyPost_ret (v:=.agg #[.bool false,.slice A2 n2 c2]) (by simp [results,Tryz.results127,go_sem,r0,r1]) rfl ?_
  exact HG.out
theorem zmV (x:Int)(b s:Bool)(Y:Nat)(A D:oA9)(n m c d:Nat)(w:World)(hA:zaG w x b A n c)(hD:zad w Y D m d)(hn:n<=274877906944)(hm:m<=274877906944):
  Calls Tryz.prog 204 #[.agg #[.bool b,.slice A n c],.bool s,.agg #[.slice D m d]] w (zbc w (x+zba s Y)):=by
 have hx:=zgl x
 rw [<-hA.1] at hx
 obtain⟨X,hX⟩:∃X,x.natAbs=X:=⟨_,rfl⟩
 rw [hX] at hx
 have hW:=hA.2
 rw [hX] at hW
 rw [<-hx]
 have HA:=lh9 (λw' (h:Below w.heap.size w w')=>hW.below h)
 have HD:=lh9 (λw' (h:Below w.heap.size w w')=>hD.below h)
 have HAD:=lh9 (λw' (h:Below w.heap.size w w')=>nat_add X Y A D n m c d w' (HA.out _ h) (HD.out _ h) (by omega) (by omega))
 clear hA hX hx hW hD x
 obtain⟨hB,b2,b3,k3,b5⟩:=zbL w 39 37 39 #[.bool b,.slice A n c] #[.slice D m d] #[.bool false,.slice none 0 0]
 by_cases hbs:b=s
 ·subst hbs
  have hz:zba b X+zba b Y=zba b (X+Y):=by unfold zba;split<;>omega
  rw [hz]
  clear hz
  have HS:=lh9 (λw' A n c (h:zad w' (X+Y) A n c)=>zcz b (X+Y) A n c w' h)
  cases b
  ·skip
   go_enter Tryz.func204,Tryz.ntmps204
   go_wp2_with fail
   generalize ((w.alloc (.cells #[.bool false,.slice A n c] 39)).alloc (.cells #[.slice D m d] 37)).alloc (.cells #[.bool false,.slice none 0 0] 39)=W0 at*
   have g0:W0.cell? ⟨w.heap.size,0,none⟩=some (.bool false):=b2.cell 0
   have g1:W0.cell? ⟨w.heap.size,1,none⟩=some (.slice A n c):=b2.cell 1
   have g2:W0.cell? ⟨w.heap.size+1,0,none⟩=some (.slice D m d):=b3.cell 0
   clear b2 b3 b5
   refine(HAD.out _ hB).mono ?_
   rintro e w1 ⟨A1,n1,c1,rfl,hw1,hb,hf⟩
   have hk1:=zaa hb k3
   have hB1:=zab hB hb
   clear hb hf k3 hB HAD HA HD g0 g1 g2
   have HS1:=lh9 (HS.out _ _ _ _ hw1)
   go_wp2_with fail
   refine HS1.out.mono ?_
   rintro e w9 ⟨b3,A3,n3,c3,rfl,hw3,hb⟩
   have hk2:=zaa hb hk1
   have hbb:=zab hB1 hb
   clear hb HS1 hk1 hB1 hw1 HS
   have hk9:=(hk2.set_ 0 (.bool b3)).set_ 1 (.slice A3 n3 c3)
   have r0:=hk9.cell 0
   have r1:=hk9.cell 1
   have c0:=hk2.cell 0
   have f0:=hk2.frozen 0
   have c1:(w9.setCell ⟨w.heap.size+1+1,0,none⟩ (.bool b3)).cell? ⟨w.heap.size+1+1,1,none⟩=some (.slice none 0 0):=(hk2.set_ 0 (.bool b3)).cell 1
   have f1:=(hk2.set_ 0 (.bool b3)).frozen 1
   have hwz:=zbx hw3 hk2 b3 A3 n3 c3
   have hbz:=zae (p:=⟨w.heap.size+1+1,1,none⟩) (.slice A3 n3 c3) (by dsimp only;omega) (zae (p:=⟨w.heap.size+1+1,0,none⟩) (.bool b3) (by dsimp only;omega) hbb)
   have HG : Hid (zbc w (zba false (X + Y)) (.returned (.agg #[.bool b3,.slice A3 n3 c3])) ((w9.setCell ⟨w.heap.size + 1 + 1,0,none⟩ (.bool b3)).setCell ⟨w.heap.size + 1 + 1,1,none⟩ (.slice A3 n3 c3))) :=
    ⟨_,_,_,_,rfl,hwz,hbz⟩
   clear hk9 hwz hbz hk2 hbb hw3
   go_wp2
   refine bodyPost_ret (v:=.agg #[.bool b3,.slice A3 n3 c3]) (by simp [results,Tryz.results204,go_sem,r0,r1]) rfl ?_
   exact HG.out
  ·skip
   go_enter Tryz.func204,Tryz.ntmps204
   go_wp2_with fail
   generalize ((w.alloc (.cells #[.bool true,.slice A n c] 39)).alloc (.cells #[.slice D m d] 37)).alloc (.cells #[.bool false,.slice none 0 0] 39)=W0 at*
   have g0:W0.cell? ⟨w.heap.size,0,none⟩=some (.bool true):=b2.cell 0
   have g1:W0.cell? ⟨w.heap.size,1,none⟩=some (.slice A n c):=b2.cell 1
   have g2:W0.cell? ⟨w.heap.size+1,0,none⟩=some (.slice D m d):=b3.cell 0
   clear b2 b3 b5
   refine(HAD.out _ hB).mono ?_
   rintro e w1 ⟨A1,n1,c1,rfl,hw1,hb,hf⟩
   have hk1:=zaa hb k3
   have hB1:=zab hB hb
   clear hb hf k3 hB HAD HA HD g0 g1 g2
   have HS1:=lh9 (HS.out _ _ _ _ hw1)
   go_wp2_with fail
   refine HS1.out.mono ?_
   rintro e w9 ⟨b3,A3,n3,c3,rfl,hw3,hb⟩
   have hk2:=zaa hb hk1
   have hbb:=zab hB1 hb
   clear hb HS1 hk1 hB1 hw1 HS
   have hk9:=(hk2.set_ 0 (.bool b3)).set_ 1 (.slice A3 n3 c3)
   have r0:=hk9.cell 0
   have r1:=hk9.cell 1
   have c0:=hk2.cell 0
   have f0:=hk2.frozen 0
   have c1:(w9.setCell ⟨w.heap.size+1+1,0,none⟩ (.bool b3)).cell? ⟨w.heap.size+1+1,1,none⟩=some (.slice none 0 0):=(hk2.set_ 0 (.bool b3)).cell 1
   have f1:=(hk2.set_ 0 (.bool b3)).frozen 1
   have hwz:=zbx hw3 hk2 b3 A3 n3 c3
   have hbz:=zae (p:=⟨w.heap.size+1+1,1,none⟩) (.slice A3 n3 c3) (by dsimp only;omega) (zae (p:=⟨w.heap.size+1+1,0,none⟩) (.bool b3) (by dsimp only;omega) hbb)
   have HG : Hid (zbc w (zba true (X + Y)) (.returned (.agg #[.bool b3,.slice A3 n3 c3])) ((w9.setCell ⟨w.heap.size + 1 + 1,0,none⟩ (.bool b3)).setCell ⟨w.heap.size + 1 + 1,1,none⟩ (.slice A3 n3 c3))) :=
    ⟨_,_,_,_,rfl,hwz,hbz⟩
   clear hk9 hwz hbz hk2 hbb hw3
   go_wp2
   refine bodyPost_ret (v:=.agg #[.bool b3,.slice A3 n3 c3]) (by simp [results,Tryz.results204,go_sem,r0,r1]) rfl ?_
   exact HG.out
 ·have hs:s= !b:=by cases b<;>cases s<;>simp at hbs⊢
  subst hs
  clear hbs
  rcases Nat.lt_or_ge X Y with hlt|hle
  ·have hz:zba b X+zba (!b) Y=zba (!b) (Y - X):=by unfold zba;cases b<;>simp<;>omega
   rw [hz]
   clear hz
   have HS:=lh9 (λw' A n c (h:zad w' (Y - X) A n c)=>zcz (!b) (Y - X) A n c w' h)
   have HNO:=lh9 (λw' (h:Below w.heap.size w w')=>zoE X Y A D n m c d w' (HA.out _ h) (HD.out _ h) (by omega) (by omega) hlt)
   have HYE:=lh9 (λw' (h:Below w.heap.size w w')=>zpC Y X D A m n d c w' (HD.out _ h) (HA.out _ h) (by omega) (by omega) (by omega))
   clear hlt
   cases b
   ·skip
    go_enter Tryz.func204,Tryz.ntmps204
    go_wp2_with fail
    generalize ((w.alloc (.cells #[.bool false,.slice A n c] 39)).alloc (.cells #[.slice D m d] 37)).alloc (.cells #[.bool false,.slice none 0 0] 39)=W0 at*
    have g0:W0.cell? ⟨w.heap.size,0,none⟩=some (.bool false):=b2.cell 0
    have g1:W0.cell? ⟨w.heap.size,1,none⟩=some (.slice A n c):=b2.cell 1
    have g2:W0.cell? ⟨w.heap.size+1,0,none⟩=some (.slice D m d):=b3.cell 0
    clear b2 b3 b5
    refine(HNO.out _ hB).mono ?_
    rintro e w1 ⟨A1,n1,c1,rfl,hw1,hb,hf⟩
    have hk1:=zaa hb k3
    have hB1:=zab hB hb
    have g0:=zac hb g0
    have g1:=zac hb g1
    have g2:=zac hb g2
    clear hb hf k3 hB HNO hw1 HAD
    obtain⟨d1,d2,d5⟩:=zav w1 37 #[.slice A1 n1 c1]
    have hB1:=zab hB1 d1
    have hk1:=zaa d1 hk1
    have g0:=zac d1 g0
    have g1:=zac d1 g1
    have g2:=zac d1 g2
    clear d2 d5 d1
    go_wp2_with fail
    generalize w1.alloc (.cells #[.slice A1 n1 c1] 37)=W1 at*
    refine(HYE.out _ hB1).mono ?_
    rintro e w2 ⟨A2,n2,c2,rfl,hw2,hb,hf⟩
    have hk1:=zaa hb hk1
    have hB1:=zab hB1 hb
    clear hb hf HYE HA HD g0 g1 g2
    obtain⟨d1,d2,d5⟩:=zav w2 37 #[.slice A2 n2 c2]
    have hB1:=zab hB1 d1
    have hk1:=zaa d1 hk1
    have hw2:=hw2.below d1
    have g3:(w2.alloc (.cells #[.slice A2 n2 c2] 37)).cell? ⟨w2.heap.size,0,none⟩=some (.slice A2 n2 c2):=d2.cell 0
    clear d1 d2 d5
    have HS1:=lh9 (HS.out _ _ _ _ hw2)
    go_wp2_with fail
    refine HS1.out.mono ?_
    rintro e w9 ⟨b3,A3,n3,c3,rfl,hw3,hb⟩
    have hk2:=zaa hb hk1
    have hbb:=zab hB1 hb
    clear hb HS1 hk1 hB1 hw2 HS g3
    have hk9:=(hk2.set_ 0 (.bool b3)).set_ 1 (.slice A3 n3 c3)
    have r0:=hk9.cell 0
    have r1:=hk9.cell 1
    have c0:=hk2.cell 0
    have f0:=hk2.frozen 0
    have c1:(w9.setCell ⟨w.heap.size+1+1,0,none⟩ (.bool b3)).cell? ⟨w.heap.size+1+1,1,none⟩=some (.slice none 0 0):=(hk2.set_ 0 (.bool b3)).cell 1
    have f1:=(hk2.set_ 0 (.bool b3)).frozen 1
    have hwz:=zbx hw3 hk2 b3 A3 n3 c3
    have hbz:=zae (p:=⟨w.heap.size+1+1,1,none⟩) (.slice A3 n3 c3) (by dsimp only;omega) (zae (p:=⟨w.heap.size+1+1,0,none⟩) (.bool b3) (by dsimp only;omega) hbb)
    have HG : Hid (zbc w (zba (!false) (Y - X)) (.returned (.agg #[.bool b3,.slice A3 n3 c3])) ((w9.setCell ⟨w.heap.size + 1 + 1,0,none⟩ (.bool b3)).setCell ⟨w.heap.size + 1 + 1,1,none⟩ (.slice A3 n3 c3))) :=
     ⟨_,_,_,_,rfl,hwz,hbz⟩
    clear hk9 hwz hbz hk2 hbb hw3
    go_wp2
    refine bodyPost_ret (v:=.agg #[.bool b3,.slice A3 n3 c3]) (by simp [results,Tryz.results204,go_sem,r0,r1]) rfl ?_
    exact HG.out
   ·skip
    go_enter Tryz.func204,Tryz.ntmps204
    go_wp2_with fail
    generalize ((w.alloc (.cells #[.bool true,.slice A n c] 39)).alloc (.cells #[.slice D m d] 37)).alloc (.cells #[.bool false,.slice none 0 0] 39)=W0 at*
    have g0:W0.cell? ⟨w.heap.size,0,none⟩=some (.bool true):=b2.cell 0
    have g1:W0.cell? ⟨w.heap.size,1,none⟩=some (.slice A n c):=b2.cell 1
    have g2:W0.cell? ⟨w.heap.size+1,0,none⟩=some (.slice D m d):=b3.cell 0
    clear b2 b3 b5
    refine(HNO.out _ hB).mono ?_
    rintro e w1 ⟨A1,n1,c1,rfl,hw1,hb,hf⟩
    have hk1:=zaa hb k3
    have hB1:=zab hB hb
    have g0:=zac hb g0
    have g1:=zac hb g1
    have g2:=zac hb g2
    clear hb hf k3 hB HNO hw1 HAD
    obtain⟨d1,d2,d5⟩:=zav w1 37 #[.slice A1 n1 c1]
    have hB1:=zab hB1 d1
    have hk1:=zaa d1 hk1
    have g0:=zac d1 g0
    have g1:=zac d1 g1
    have g2:=zac d1 g2
    clear d2 d5 d1
    go_wp2_with fail
    generalize w1.alloc (.cells #[.slice A1 n1 c1] 37)=W1 at*
    refine(HYE.out _ hB1).mono ?_
    rintro e w2 ⟨A2,n2,c2,rfl,hw2,hb,hf⟩
    have hk1:=zaa hb hk1
    have hB1:=zab hB1 hb
    clear hb hf HYE HA HD g0 g1 g2
    obtain⟨d1,d2,d5⟩:=zav w2 37 #[.slice A2 n2 c2]
    have hB1:=zab hB1 d1
    have hk1:=zaa d1 hk1
    have hw2:=hw2.below d1
    have g3:(w2.alloc (.cells #[.slice A2 n2 c2] 37)).cell? ⟨w2.heap.size,0,none⟩=some (.slice A2 n2 c2):=d2.cell 0
    clear d1 d2 d5
    have HS1:=lh9 (HS.out _ _ _ _ hw2)
    go_wp2_with fail
    refine HS1.out.mono ?_
    rintro e w9 ⟨b3,A3,n3,c3,rfl,hw3,hb⟩
    have hk2:=zaa hb hk1
    have hbb:=zab hB1 hb
    clear hb HS1 hk1 hB1 hw2 HS g3
    have hk9:=(hk2.set_ 0 (.bool b3)).set_ 1 (.slice A3 n3 c3)
    have r0:=hk9.cell 0
    have r1:=hk9.cell 1
    have c0:=hk2.cell 0
    have f0:=hk2.frozen 0
    have c1:(w9.setCell ⟨w.heap.size+1+1,0,none⟩ (.bool b3)).cell? ⟨w.heap.size+1+1,1,none⟩=some (.slice none 0 0):=(hk2.set_ 0 (.bool b3)).cell 1
    have f1:=(hk2.set_ 0 (.bool b3)).frozen 1
    have hwz:=zbx hw3 hk2 b3 A3 n3 c3
    have hbz:=zae (p:=⟨w.heap.size+1+1,1,none⟩) (.slice A3 n3 c3) (by dsimp only;omega) (zae (p:=⟨w.heap.size+1+1,0,none⟩) (.bool b3) (by dsimp only;omega) hbb)
    have HG : Hid (zbc w (zba (!true) (Y - X)) (.returned (.agg #[.bool b3,.slice A3 n3 c3])) ((w9.setCell ⟨w.heap.size + 1 + 1,0,none⟩ (.bool b3)).setCell ⟨w.heap.size + 1 + 1,1,none⟩ (.slice A3 n3 c3))) :=
     ⟨_,_,_,_,rfl,hwz,hbz⟩
    clear hk9 hwz hbz hk2 hbb hw3
    go_wp2
    refine bodyPost_ret (v:=.agg #[.bool b3,.slice A3 n3 c3]) (by simp [results,Tryz.results204,go_sem,r0,r1]) rfl ?_
    exact HG.out
  ·have hz:zba b X+zba (!b) Y=zba b (X - Y):=by unfold zba;cases b<;>simp<;>omega
   rw [hz]
   clear hz
   have HS:=lh9 (λw' A n c (h:zad w' (X - Y) A n c)=>zcz b (X - Y) A n c w' h)
   have HYE:=lh9 (λw' (h:Below w.heap.size w w')=>zpC X Y A D n m c d w' (HA.out _ h) (HD.out _ h) (by omega) (by omega) hle)
   clear hle
   cases b
   ·skip
    go_enter Tryz.func204,Tryz.ntmps204
    go_wp2_with fail
    generalize ((w.alloc (.cells #[.bool false,.slice A n c] 39)).alloc (.cells #[.slice D m d] 37)).alloc (.cells #[.bool false,.slice none 0 0] 39)=W0 at*
    have g0:W0.cell? ⟨w.heap.size,0,none⟩=some (.bool false):=b2.cell 0
    have g1:W0.cell? ⟨w.heap.size,1,none⟩=some (.slice A n c):=b2.cell 1
    have g2:W0.cell? ⟨w.heap.size+1,0,none⟩=some (.slice D m d):=b3.cell 0
    clear b2 b3 b5
    refine(HYE.out _ hB).mono ?_
    rintro e w1 ⟨A1,n1,c1,rfl,hw1,hb,hf⟩
    have hk1:=zaa hb k3
    have hB1:=zab hB hb
    have g0:=zac hb g0
    clear hb hf k3 hB HYE HAD g1 g2 HA HD
    obtain⟨d1,d2,d5⟩:=zav w1 37 #[.slice A1 n1 c1]
    have hB1:=zab hB1 d1
    have hk1:=zaa d1 hk1
    have g0:=zac d1 g0
    have hw1:=hw1.below d1
    have g3:(w1.alloc (.cells #[.slice A1 n1 c1] 37)).cell? ⟨w1.heap.size,0,none⟩=some (.slice A1 n1 c1):=d2.cell 0
    clear d1 d2 d5
    have HS1:=lh9 (HS.out _ _ _ _ hw1)
    go_wp2_with fail
    refine HS1.out.mono ?_
    rintro e w9 ⟨b3,A3,n3,c3,rfl,hw3,hb⟩
    have hk2:=zaa hb hk1
    have hbb:=zab hB1 hb
    clear hb HS1 hk1 hB1 hw1 HS g0 g3
    have hk9:=(hk2.set_ 0 (.bool b3)).set_ 1 (.slice A3 n3 c3)
    have r0:=hk9.cell 0
    have r1:=hk9.cell 1
    have c0:=hk2.cell 0
    have f0:=hk2.frozen 0
    have c1:(w9.setCell ⟨w.heap.size+1+1,0,none⟩ (.bool b3)).cell? ⟨w.heap.size+1+1,1,none⟩=some (.slice none 0 0):=(hk2.set_ 0 (.bool b3)).cell 1
    have f1:=(hk2.set_ 0 (.bool b3)).frozen 1
    have hwz:=zbx hw3 hk2 b3 A3 n3 c3
    have hbz:=zae (p:=⟨w.heap.size+1+1,1,none⟩) (.slice A3 n3 c3) (by dsimp only;omega) (zae (p:=⟨w.heap.size+1+1,0,none⟩) (.bool b3) (by dsimp only;omega) hbb)
    have HG : Hid (zbc w (zba false (X - Y)) (.returned (.agg #[.bool b3,.slice A3 n3 c3])) ((w9.setCell ⟨w.heap.size + 1 + 1,0,none⟩ (.bool b3)).setCell ⟨w.heap.size + 1 + 1,1,none⟩ (.slice A3 n3 c3))) :=
     ⟨_,_,_,_,rfl,hwz,hbz⟩
    clear hk9 hwz hbz hk2 hbb hw3
    go_wp2
    refine bodyPost_ret (v:=.agg #[.bool b3,.slice A3 n3 c3]) (by simp [results,Tryz.results204,go_sem,r0,r1]) rfl ?_
    exact HG.out
   ·skip
    go_enter Tryz.func204,Tryz.ntmps204
    go_wp2_with fail
    generalize ((w.alloc (.cells #[.bool true,.slice A n c] 39)).alloc (.cells #[.slice D m d] 37)).alloc (.cells #[.bool false,.slice none 0 0] 39)=W0 at*
    have g0:W0.cell? ⟨w.heap.size,0,none⟩=some (.bool true):=b2.cell 0
    have g1:W0.cell? ⟨w.heap.size,1,none⟩=some (.slice A n c):=b2.cell 1
    have g2:W0.cell? ⟨w.heap.size+1,0,none⟩=some (.slice D m d):=b3.cell 0
    clear b2 b3 b5
    refine(HYE.out _ hB).mono ?_
    rintro e w1 ⟨A1,n1,c1,rfl,hw1,hb,hf⟩
    have hk1:=zaa hb k3
    have hB1:=zab hB hb
    have g0:=zac hb g0
    clear hb hf k3 hB HYE HAD g1 g2 HA HD
    obtain⟨d1,d2,d5⟩:=zav w1 37 #[.slice A1 n1 c1]
    have hB1:=zab hB1 d1
    have hk1:=zaa d1 hk1
    have g0:=zac d1 g0
    have hw1:=hw1.below d1
    have g3:(w1.alloc (.cells #[.slice A1 n1 c1] 37)).cell? ⟨w1.heap.size,0,none⟩=some (.slice A1 n1 c1):=d2.cell 0
    clear d1 d2 d5
    have HS1:=lh9 (HS.out _ _ _ _ hw1)
    go_wp2_with fail
    refine HS1.out.mono ?_
    rintro e w9 ⟨b3,A3,n3,c3,rfl,hw3,hb⟩
    have hk2:=zaa hb hk1
    have hbb:=zab hB1 hb
    clear hb HS1 hk1 hB1 hw1 HS g0 g3
    have hk9:=(hk2.set_ 0 (.bool b3)).set_ 1 (.slice A3 n3 c3)
    have r0:=hk9.cell 0
    have r1:=hk9.cell 1
    have c0:=hk2.cell 0
    have f0:=hk2.frozen 0
    have c1:(w9.setCell ⟨w.heap.size+1+1,0,none⟩ (.bool b3)).cell? ⟨w.heap.size+1+1,1,none⟩=some (.slice none 0 0):=(hk2.set_ 0 (.bool b3)).cell 1
    have f1:=(hk2.set_ 0 (.bool b3)).frozen 1
    have hwz:=zbx hw3 hk2 b3 A3 n3 c3
    have hbz:=zae (p:=⟨w.heap.size+1+1,1,none⟩) (.slice A3 n3 c3) (by dsimp only;omega) (zae (p:=⟨w.heap.size+1+1,0,none⟩) (.bool b3) (by dsimp only;omega) hbb)
    have HG : Hid (zbc w (zba true (X - Y)) (.returned (.agg #[.bool b3,.slice A3 n3 c3])) ((w9.setCell ⟨w.heap.size + 1 + 1,0,none⟩ (.bool b3)).setCell ⟨w.heap.size + 1 + 1,1,none⟩ (.slice A3 n3 c3))) :=
     ⟨_,_,_,_,rfl,hwz,hbz⟩
    clear hk9 hwz hbz hk2 hbb hw3
    go_wp2
    refine bodyPost_ret (v:=.agg #[.bool b3,.slice A3 n3 c3]) (by simp [results,Tryz.results204,go_sem,r0,r1]) rfl ?_
    exact HG.out
theorem zmR (x y:Int)(b b':Bool)(A D:oA9)(n m c d:Nat)(w:World)(hA:zaG w x b A n c)(hD:zaG w y b' D m d)(hn:n<=274877906944)(hm:m<=274877906944):
  Calls Tryz.prog 177 #[.agg #[.bool b,.slice A n c],.agg #[.bool b',.slice D m d]] w (zbc w (x+y)):=by
 have hy:=zgl y
 rw [<-hD.1] at hy
 have hz:x+zba (b') y.natAbs=x+y:=by rw [hy]
 obtain⟨Y,hY⟩:∃Y,y.natAbs=Y:=⟨_,rfl⟩
 have HSM:=lh9 (λw' (h:Below w.heap.size w w')=>zmV x b (b') y.natAbs A D n m c d w' (hA.below h) (hD.2.below h) hn hm)
 rw [hY] at HSM hz
 rw [hz] at HSM
 clear hA hD hz hy hY
 cases b'
 ·skip
  obtain⟨hB,b2,b3,k3,b5⟩:=zbL w 39 39 39 #[.bool b,.slice A n c] #[.bool false,.slice D m d] #[.bool false,.slice none 0 0]
  go_enter Tryz.func177,Tryz.ntmps177
  go_wp2_with fail
  generalize ((w.alloc (.cells #[.bool b,.slice A n c] 39)).alloc (.cells #[.bool false,.slice D m d] 39)).alloc (.cells #[.bool false,.slice none 0 0] 39)=W0 at*
  have g0:W0.cell? ⟨w.heap.size,0,none⟩=some (.bool b):=b2.cell 0
  have g1:W0.cell? ⟨w.heap.size,1,none⟩=some (.slice A n c):=b2.cell 1
  have g2:W0.cell? ⟨w.heap.size+1,0,none⟩=some (.bool false):=b3.cell 0
  have g3:W0.cell? ⟨w.heap.size+1,1,none⟩=some (.slice D m d):=b3.cell 1
  clear b2 b3 b5
  refine(HSM.out _ hB).mono ?_
  rintro e w9 ⟨b3,A3,n3,c3,rfl,hw3,hb⟩
  have hk2:=zaa hb k3
  have hbb:=zab hB hb
  clear hb k3 hB HSM g0 g1 g2 g3
  have hk9:=(hk2.set_ 0 (.bool b3)).set_ 1 (.slice A3 n3 c3)
  have r0:=hk9.cell 0
  have r1:=hk9.cell 1
  have c0:=hk2.cell 0
  have f0:=hk2.frozen 0
  have c1:(w9.setCell ⟨w.heap.size+1+1,0,none⟩ (.bool b3)).cell? ⟨w.heap.size+1+1,1,none⟩=some (.slice none 0 0):=(hk2.set_ 0 (.bool b3)).cell 1
  have f1:=(hk2.set_ 0 (.bool b3)).frozen 1
  have hwz:=zbx hw3 hk2 b3 A3 n3 c3
  have hbz:=zae (p:=⟨w.heap.size+1+1,1,none⟩) (.slice A3 n3 c3) (by dsimp only;omega) (zae (p:=⟨w.heap.size+1+1,0,none⟩) (.bool b3) (by dsimp only;omega) hbb)
  have HG : Hid (zbc w (x + y) (.returned (.agg #[.bool b3,.slice A3 n3 c3])) ((w9.setCell ⟨w.heap.size + 1 + 1,0,none⟩ (.bool b3)).setCell ⟨w.heap.size + 1 + 1,1,none⟩ (.slice A3 n3 c3))) :=
   ⟨_,_,_,_,rfl,hwz,hbz⟩
  clear hk9 hwz hbz hk2 hbb hw3
  go_wp2
  refine bodyPost_ret (v:=.agg #[.bool b3,.slice A3 n3 c3]) (by simp [results,Tryz.results177,go_sem,r0,r1]) rfl ?_
  exact HG.out
 ·skip
  obtain⟨hB,b2,b3,k3,b5⟩:=zbL w 39 39 39 #[.bool b,.slice A n c] #[.bool true,.slice D m d] #[.bool false,.slice none 0 0]
  go_enter Tryz.func177,Tryz.ntmps177
  go_wp2_with fail
  generalize ((w.alloc (.cells #[.bool b,.slice A n c] 39)).alloc (.cells #[.bool true,.slice D m d] 39)).alloc (.cells #[.bool false,.slice none 0 0] 39)=W0 at*
  have g0:W0.cell? ⟨w.heap.size,0,none⟩=some (.bool b):=b2.cell 0
  have g1:W0.cell? ⟨w.heap.size,1,none⟩=some (.slice A n c):=b2.cell 1
  have g2:W0.cell? ⟨w.heap.size+1,0,none⟩=some (.bool true):=b3.cell 0
  have g3:W0.cell? ⟨w.heap.size+1,1,none⟩=some (.slice D m d):=b3.cell 1
  clear b2 b3 b5
  refine(HSM.out _ hB).mono ?_
  rintro e w9 ⟨b3,A3,n3,c3,rfl,hw3,hb⟩
  have hk2:=zaa hb k3
  have hbb:=zab hB hb
  clear hb k3 hB HSM g0 g1 g2 g3
  have hk9:=(hk2.set_ 0 (.bool b3)).set_ 1 (.slice A3 n3 c3)
  have r0:=hk9.cell 0
  have r1:=hk9.cell 1
  have c0:=hk2.cell 0
  have f0:=hk2.frozen 0
  have c1:(w9.setCell ⟨w.heap.size+1+1,0,none⟩ (.bool b3)).cell? ⟨w.heap.size+1+1,1,none⟩=some (.slice none 0 0):=(hk2.set_ 0 (.bool b3)).cell 1
  have f1:=(hk2.set_ 0 (.bool b3)).frozen 1
  have hwz:=zbx hw3 hk2 b3 A3 n3 c3
  have hbz:=zae (p:=⟨w.heap.size+1+1,1,none⟩) (.slice A3 n3 c3) (by dsimp only;omega) (zae (p:=⟨w.heap.size+1+1,0,none⟩) (.bool b3) (by dsimp only;omega) hbb)
  have HG : Hid (zbc w (x + y) (.returned (.agg #[.bool b3,.slice A3 n3 c3])) ((w9.setCell ⟨w.heap.size + 1 + 1,0,none⟩ (.bool b3)).setCell ⟨w.heap.size + 1 + 1,1,none⟩ (.slice A3 n3 c3))) :=
   ⟨_,_,_,_,rfl,hwz,hbz⟩
  clear hk9 hwz hbz hk2 hbb hw3
  go_wp2
  refine bodyPost_ret (v:=.agg #[.bool b3,.slice A3 n3 c3]) (by simp [results,Tryz.results177,go_sem,r0,r1]) rfl ?_
  exact HG.out
theorem sgn_mul (b b':Bool)(X Y:Nat):zba b X*zba b' Y=zba (b !=b') (X*Y):=by
 unfold zba
 cases b<;>cases b'<;>simp [Int.natCast_mul,Int.mul_neg,Int.neg_mul]
theorem zmT (x y:Int)(b b':Bool)(A D:oA9)(n m c d:Nat)(w:World)(hA:zaG w x b A n c)(hD:zaG w y b' D m d)(hn:n<=274877906944)(hm:m<=274877906944):
  Calls Tryz.prog 102 #[.agg #[.bool b,.slice A n c],.agg #[.bool b',.slice D m d]] w (zbc w (x*y)):=by
 have hx:=zgl x
 have hy:=zgl y
 rw [<-hA.1] at hx
 rw [<-hD.1] at hy
 have HM:=lh9 (λw' (h:Below w.heap.size w w')=>zhq x.natAbs y.natAbs A D n m c d w' (hA.2.below h) (hD.2.below h) hn hm)
 obtain⟨X,hX⟩:∃X,x.natAbs=X:=⟨_,rfl⟩
 obtain⟨Y,hY⟩:∃Y,y.natAbs=Y:=⟨_,rfl⟩
 rw [hX,hY] at HM
 rw [hX] at hx
 rw [hY] at hy
 rw [<-hx,<-hy,sgn_mul]
 have HS:=lh9 (λs w' A n c (h:zad w' (X*Y) A n c)=>zcz s (X*Y) A n c w' h)
 clear hA hD hX hY hx hy x y
 cases b<;>cases b'
 ·skip
  have HS1:=lh9 (HS.out false)
  obtain⟨hB,b2,b3,k3,b5⟩:=zbL w 39 39 39 #[.bool false,.slice A n c] #[.bool false,.slice D m d] #[.bool false,.slice none 0 0]
  go_enter Tryz.func102,Tryz.ntmps102
  go_wp2_with fail
  generalize ((w.alloc (.cells #[.bool false,.slice A n c] 39)).alloc (.cells #[.bool false,.slice D m d] 39)).alloc (.cells #[.bool false,.slice none 0 0] 39)=W0 at*
  have g0:W0.drew.cell? ⟨w.heap.size,0,none⟩=some (.bool false):=b2.cell 0
  have g1:W0.drew.cell? ⟨w.heap.size,1,none⟩=some (.slice A n c):=b2.cell 1
  have g2:W0.drew.cell? ⟨w.heap.size+1,0,none⟩=some (.bool false):=b3.cell 0
  have g3:W0.drew.cell? ⟨w.heap.size+1,1,none⟩=some (.slice D m d):=b3.cell 1
  have hb0:=hB.drew
  have hk0:=k3.drew
  clear b2 b3 b5 hB k3 HS
  go_region_held3 (fun w' => Below w.heap.size w w' ∧ w'.cell? ⟨w.heap.size,0,none⟩ = some (.bool false) ∧ w'.cell? ⟨w.heap.size,1,none⟩ = some (.slice A n c) ∧ w'.cell? ⟨w.heap.size + 1,0,none⟩ = some (.bool false) ∧ w'.cell? ⟨w.heap.size + 1,1,none⟩ = some (.slice D m d))
   (first|(exact⟨hb0,g0,g1,g2,g3⟩)|(go_split_ands;(repeat' apply And.intro);all_goals (first|with_reducible assumption|exact zab (by with_reducible assumption) hb|exact zac hb (by with_reducible assumption)|exact zae _ (by dsimp only;omega) (zae _ (by dsimp only;omega) (by with_reducible assumption))|exact zag _ (by dsimp only;omega) (zag _ (by dsimp only;omega) (by with_reducible assumption))|exact zae _ (by dsimp only;omega) (by with_reducible assumption)|exact zag _ (by dsimp only;omega) (by with_reducible assumption))))
   (first
     |(go_at_call 108;(with_reducible refine(HM.out _ (by first|with_reducible assumption|exact And.left (by with_reducible assumption))).mono ?_);rintro e w2 ⟨A2,n2,c2,rfl,hw2,hb,_⟩;have hk1:=zaa hb hk0)
     |(go_at_call 158;(with_reducible refine(HS1.out _ _ _ _ hw2).mono ?_);rintro e w3 ⟨b3,A3,n3,c3,rfl,hw3,hb⟩;go_split_ands;have hk2:=zaa hb hk1;have c0:=hk2.cell 0;have f0:=hk2.frozen 0;have c1:(w3.setCell ⟨w.heap.size+1+1,0,none⟩ (.bool b3)).cell? ⟨w.heap.size+1+1,1,none⟩=some (.slice none 0 0):=(hk2.set_ 0 (.bool b3)).cell 1;have f1:=(hk2.set_ 0 (.bool b3)).frozen 1;have hbb:Below w.heap.size w w3:=zab (by with_reducible assumption) hb))
  have hk9:=(hk2.set_ 0 (.bool b3)).set_ 1 (.slice A3 n3 c3)
  have r0:=hk9.cell 0
  have r1:=hk9.cell 1
  have c0:=hk2.cell 0
  have f0:=hk2.frozen 0
  have c1:(w3.setCell ⟨w.heap.size+1+1,0,none⟩ (.bool b3)).cell? ⟨w.heap.size+1+1,1,none⟩=some (.slice none 0 0):=(hk2.set_ 0 (.bool b3)).cell 1
  have f1:=(hk2.set_ 0 (.bool b3)).frozen 1
  have hwz:=zbx hw3 hk2 b3 A3 n3 c3
  have hbz:=zae (p:=⟨w.heap.size+1+1,1,none⟩) (.slice A3 n3 c3) (by dsimp only;omega) (zae (p:=⟨w.heap.size+1+1,0,none⟩) (.bool b3) (by dsimp only;omega) hbb)
  have HG : Hid (zbc w (zba false (X * Y)) (.returned (.agg #[.bool b3,.slice A3 n3 c3])) ((w3.setCell ⟨w.heap.size + 1 + 1,0,none⟩ (.bool b3)).setCell ⟨w.heap.size + 1 + 1,1,none⟩ (.slice A3 n3 c3))) :=
   ⟨_,_,_,_,rfl,hwz,hbz⟩
  clear hk9 hwz hbz hk2 hbb hw3 hb hk1 hk0 hb0 HS1 HM g0 g1 g2 g3 hw2
  go_wp2
  refine bodyPost_ret (v:=.agg #[.bool b3,.slice A3 n3 c3]) (by simp [results,Tryz.results102,go_sem,r0,r1]) rfl ?_
  exact HG.out
 ·skip
  have HS1:=lh9 (HS.out true)
  obtain⟨hB,b2,b3,k3,b5⟩:=zbL w 39 39 39 #[.bool false,.slice A n c] #[.bool true,.slice D m d] #[.bool false,.slice none 0 0]
  go_enter Tryz.func102,Tryz.ntmps102
  go_wp2_with fail
  generalize ((w.alloc (.cells #[.bool false,.slice A n c] 39)).alloc (.cells #[.bool true,.slice D m d] 39)).alloc (.cells #[.bool false,.slice none 0 0] 39)=W0 at*
  have g0:W0.drew.cell? ⟨w.heap.size,0,none⟩=some (.bool false):=b2.cell 0
  have g1:W0.drew.cell? ⟨w.heap.size,1,none⟩=some (.slice A n c):=b2.cell 1
  have g2:W0.drew.cell? ⟨w.heap.size+1,0,none⟩=some (.bool true):=b3.cell 0
  have g3:W0.drew.cell? ⟨w.heap.size+1,1,none⟩=some (.slice D m d):=b3.cell 1
  have hb0:=hB.drew
  have hk0:=k3.drew
  clear b2 b3 b5 hB k3 HS
  go_region_held3 (fun w' => Below w.heap.size w w' ∧ w'.cell? ⟨w.heap.size,0,none⟩ = some (.bool false) ∧ w'.cell? ⟨w.heap.size,1,none⟩ = some (.slice A n c) ∧ w'.cell? ⟨w.heap.size + 1,0,none⟩ = some (.bool true) ∧ w'.cell? ⟨w.heap.size + 1,1,none⟩ = some (.slice D m d))
   (first|(exact⟨hb0,g0,g1,g2,g3⟩)|(go_split_ands;(repeat' apply And.intro);all_goals (first|with_reducible assumption|exact zab (by with_reducible assumption) hb|exact zac hb (by with_reducible assumption)|exact zae _ (by dsimp only;omega) (zae _ (by dsimp only;omega) (by with_reducible assumption))|exact zag _ (by dsimp only;omega) (zag _ (by dsimp only;omega) (by with_reducible assumption))|exact zae _ (by dsimp only;omega) (by with_reducible assumption)|exact zag _ (by dsimp only;omega) (by with_reducible assumption))))
   (first
     |(go_at_call 108;(with_reducible refine(HM.out _ (by first|with_reducible assumption|exact And.left (by with_reducible assumption))).mono ?_);rintro e w2 ⟨A2,n2,c2,rfl,hw2,hb,_⟩;have hk1:=zaa hb hk0)
     |(go_at_call 158;(with_reducible refine(HS1.out _ _ _ _ hw2).mono ?_);rintro e w3 ⟨b3,A3,n3,c3,rfl,hw3,hb⟩;go_split_ands;have hk2:=zaa hb hk1;have c0:=hk2.cell 0;have f0:=hk2.frozen 0;have c1:(w3.setCell ⟨w.heap.size+1+1,0,none⟩ (.bool b3)).cell? ⟨w.heap.size+1+1,1,none⟩=some (.slice none 0 0):=(hk2.set_ 0 (.bool b3)).cell 1;have f1:=(hk2.set_ 0 (.bool b3)).frozen 1;have hbb:Below w.heap.size w w3:=zab (by with_reducible assumption) hb))
  have hk9:=(hk2.set_ 0 (.bool b3)).set_ 1 (.slice A3 n3 c3)
  have r0:=hk9.cell 0
  have r1:=hk9.cell 1
  have c0:=hk2.cell 0
  have f0:=hk2.frozen 0
  have c1:(w3.setCell ⟨w.heap.size+1+1,0,none⟩ (.bool b3)).cell? ⟨w.heap.size+1+1,1,none⟩=some (.slice none 0 0):=(hk2.set_ 0 (.bool b3)).cell 1
  have f1:=(hk2.set_ 0 (.bool b3)).frozen 1
  have hwz:=zbx hw3 hk2 b3 A3 n3 c3
  have hbz:=zae (p:=⟨w.heap.size+1+1,1,none⟩) (.slice A3 n3 c3) (by dsimp only;omega) (zae (p:=⟨w.heap.size+1+1,0,none⟩) (.bool b3) (by dsimp only;omega) hbb)
  have HG : Hid (zbc w (zba true (X * Y)) (.returned (.agg #[.bool b3,.slice A3 n3 c3])) ((w3.setCell ⟨w.heap.size + 1 + 1,0,none⟩ (.bool b3)).setCell ⟨w.heap.size + 1 + 1,1,none⟩ (.slice A3 n3 c3))) :=
   ⟨_,_,_,_,rfl,hwz,hbz⟩
  clear hk9 hwz hbz hk2 hbb hw3 hb hk1 hk0 hb0 HS1 HM g0 g1 g2 g3 hw2
  go_wp2
  refine bodyPost_ret (v:=.agg #[.bool b3,.slice A3 n3 c3]) (by simp [results,Tryz.results102,go_sem,r0,r1]) rfl ?_
  exact HG.out
 ·skip
  have HS1:=lh9 (HS.out true)
  obtain⟨hB,b2,b3,k3,b5⟩:=zbL w 39 39 39 #[.bool true,.slice A n c] #[.bool false,.slice D m d] #[.bool false,.slice none 0 0]
  go_enter Tryz.func102,Tryz.ntmps102
  go_wp2_with fail
  generalize ((w.alloc (.cells #[.bool true,.slice A n c] 39)).alloc (.cells #[.bool false,.slice D m d] 39)).alloc (.cells #[.bool false,.slice none 0 0] 39)=W0 at*
  have g0:W0.drew.cell? ⟨w.heap.size,0,none⟩=some (.bool true):=b2.cell 0
  have g1:W0.drew.cell? ⟨w.heap.size,1,none⟩=some (.slice A n c):=b2.cell 1
  have g2:W0.drew.cell? ⟨w.heap.size+1,0,none⟩=some (.bool false):=b3.cell 0
  have g3:W0.drew.cell? ⟨w.heap.size+1,1,none⟩=some (.slice D m d):=b3.cell 1
  have hb0:=hB.drew
  have hk0:=k3.drew
  clear b2 b3 b5 hB k3 HS
  go_region_held3 (fun w' => Below w.heap.size w w' ∧ w'.cell? ⟨w.heap.size,0,none⟩ = some (.bool true) ∧ w'.cell? ⟨w.heap.size,1,none⟩ = some (.slice A n c) ∧ w'.cell? ⟨w.heap.size + 1,0,none⟩ = some (.bool false) ∧ w'.cell? ⟨w.heap.size + 1,1,none⟩ = some (.slice D m d))
   (first|(exact⟨hb0,g0,g1,g2,g3⟩)|(go_split_ands;(repeat' apply And.intro);all_goals (first|with_reducible assumption|exact zab (by with_reducible assumption) hb|exact zac hb (by with_reducible assumption)|exact zae _ (by dsimp only;omega) (zae _ (by dsimp only;omega) (by with_reducible assumption))|exact zag _ (by dsimp only;omega) (zag _ (by dsimp only;omega) (by with_reducible assumption))|exact zae _ (by dsimp only;omega) (by with_reducible assumption)|exact zag _ (by dsimp only;omega) (by with_reducible assumption))))
   (first
     |(go_at_call 108;(with_reducible refine(HM.out _ (by first|with_reducible assumption|exact And.left (by with_reducible assumption))).mono ?_);rintro e w2 ⟨A2,n2,c2,rfl,hw2,hb,_⟩;have hk1:=zaa hb hk0)
     |(go_at_call 158;(with_reducible refine(HS1.out _ _ _ _ hw2).mono ?_);rintro e w3 ⟨b3,A3,n3,c3,rfl,hw3,hb⟩;go_split_ands;have hk2:=zaa hb hk1;have c0:=hk2.cell 0;have f0:=hk2.frozen 0;have c1:(w3.setCell ⟨w.heap.size+1+1,0,none⟩ (.bool b3)).cell? ⟨w.heap.size+1+1,1,none⟩=some (.slice none 0 0):=(hk2.set_ 0 (.bool b3)).cell 1;have f1:=(hk2.set_ 0 (.bool b3)).frozen 1;have hbb:Below w.heap.size w w3:=zab (by with_reducible assumption) hb))
  have hk9:=(hk2.set_ 0 (.bool b3)).set_ 1 (.slice A3 n3 c3)
  have r0:=hk9.cell 0
  have r1:=hk9.cell 1
  have c0:=hk2.cell 0
  have f0:=hk2.frozen 0
  have c1:(w3.setCell ⟨w.heap.size+1+1,0,none⟩ (.bool b3)).cell? ⟨w.heap.size+1+1,1,none⟩=some (.slice none 0 0):=(hk2.set_ 0 (.bool b3)).cell 1
  have f1:=(hk2.set_ 0 (.bool b3)).frozen 1
  have hwz:=zbx hw3 hk2 b3 A3 n3 c3
  have hbz:=zae (p:=⟨w.heap.size+1+1,1,none⟩) (.slice A3 n3 c3) (by dsimp only;omega) (zae (p:=⟨w.heap.size+1+1,0,none⟩) (.bool b3) (by dsimp only;omega) hbb)
  have HG : Hid (zbc w (zba true (X * Y)) (.returned (.agg #[.bool b3,.slice A3 n3 c3])) ((w3.setCell ⟨w.heap.size + 1 + 1,0,none⟩ (.bool b3)).setCell ⟨w.heap.size + 1 + 1,1,none⟩ (.slice A3 n3 c3))) :=
   ⟨_,_,_,_,rfl,hwz,hbz⟩
  clear hk9 hwz hbz hk2 hbb hw3 hb hk1 hk0 hb0 HS1 HM g0 g1 g2 g3 hw2
  go_wp2
  refine bodyPost_ret (v:=.agg #[.bool b3,.slice A3 n3 c3]) (by simp [results,Tryz.results102,go_sem,r0,r1]) rfl ?_
  exact HG.out
 ·skip
  have HS1:=lh9 (HS.out false)
  obtain⟨hB,b2,b3,k3,b5⟩:=zbL w 39 39 39 #[.bool true,.slice A n c] #[.bool true,.slice D m d] #[.bool false,.slice none 0 0]
  go_enter Tryz.func102,Tryz.ntmps102
  go_wp2_with fail
  generalize ((w.alloc (.cells #[.bool true,.slice A n c] 39)).alloc (.cells #[.bool true,.slice D m d] 39)).alloc (.cells #[.bool false,.slice none 0 0] 39)=W0 at*
  have g0:W0.drew.cell? ⟨w.heap.size,0,none⟩=some (.bool true):=b2.cell 0
  have g1:W0.drew.cell? ⟨w.heap.size,1,none⟩=some (.slice A n c):=b2.cell 1
  have g2:W0.drew.cell? ⟨w.heap.size+1,0,none⟩=some (.bool true):=b3.cell 0
  have g3:W0.drew.cell? ⟨w.heap.size+1,1,none⟩=some (.slice D m d):=b3.cell 1
  have hb0:=hB.drew
  have hk0:=k3.drew
  clear b2 b3 b5 hB k3 HS
  go_region_held3 (fun w' => Below w.heap.size w w' ∧ w'.cell? ⟨w.heap.size,0,none⟩ = some (.bool true) ∧ w'.cell? ⟨w.heap.size,1,none⟩ = some (.slice A n c) ∧ w'.cell? ⟨w.heap.size + 1,0,none⟩ = some (.bool true) ∧ w'.cell? ⟨w.heap.size + 1,1,none⟩ = some (.slice D m d))
   (first|(exact⟨hb0,g0,g1,g2,g3⟩)|(go_split_ands;(repeat' apply And.intro);all_goals (first|with_reducible assumption|exact zab (by with_reducible assumption) hb|exact zac hb (by with_reducible assumption)|exact zae _ (by dsimp only;omega) (zae _ (by dsimp only;omega) (by with_reducible assumption))|exact zag _ (by dsimp only;omega) (zag _ (by dsimp only;omega) (by with_reducible assumption))|exact zae _ (by dsimp only;omega) (by with_reducible assumption)|exact zag _ (by dsimp only;omega) (by with_reducible assumption))))
   (first
     |(go_at_call 108;(with_reducible refine(HM.out _ (by first|with_reducible assumption|exact And.left (by with_reducible assumption))).mono ?_);rintro e w2 ⟨A2,n2,c2,rfl,hw2,hb,_⟩;have hk1:=zaa hb hk0)
     |(go_at_call 158;(with_reducible refine(HS1.out _ _ _ _ hw2).mono ?_);rintro e w3 ⟨b3,A3,n3,c3,rfl,hw3,hb⟩;go_split_ands;have hk2:=zaa hb hk1;have c0:=hk2.cell 0;have f0:=hk2.frozen 0;have c1:(w3.setCell ⟨w.heap.size+1+1,0,none⟩ (.bool b3)).cell? ⟨w.heap.size+1+1,1,none⟩=some (.slice none 0 0):=(hk2.set_ 0 (.bool b3)).cell 1;have f1:=(hk2.set_ 0 (.bool b3)).frozen 1;have hbb:Below w.heap.size w w3:=zab (by with_reducible assumption) hb))
  have hk9:=(hk2.set_ 0 (.bool b3)).set_ 1 (.slice A3 n3 c3)
  have r0:=hk9.cell 0
  have r1:=hk9.cell 1
  have c0:=hk2.cell 0
  have f0:=hk2.frozen 0
  have c1:(w3.setCell ⟨w.heap.size+1+1,0,none⟩ (.bool b3)).cell? ⟨w.heap.size+1+1,1,none⟩=some (.slice none 0 0):=(hk2.set_ 0 (.bool b3)).cell 1
  have f1:=(hk2.set_ 0 (.bool b3)).frozen 1
  have hwz:=zbx hw3 hk2 b3 A3 n3 c3
  have hbz:=zae (p:=⟨w.heap.size+1+1,1,none⟩) (.slice A3 n3 c3) (by dsimp only;omega) (zae (p:=⟨w.heap.size+1+1,0,none⟩) (.bool b3) (by dsimp only;omega) hbb)
  have HG : Hid (zbc w (zba false (X * Y)) (.returned (.agg #[.bool b3,.slice A3 n3 c3])) ((w3.setCell ⟨w.heap.size + 1 + 1,0,none⟩ (.bool b3)).setCell ⟨w.heap.size + 1 + 1,1,none⟩ (.slice A3 n3 c3))) :=
   ⟨_,_,_,_,rfl,hwz,hbz⟩
  clear hk9 hwz hbz hk2 hbb hw3 hb hk1 hk0 hb0 HS1 HM g0 g1 g2 g3 hw2
  go_wp2
  refine bodyPost_ret (v:=.agg #[.bool b3,.slice A3 n3 c3]) (by simp [results,Tryz.results102,go_sem,r0,r1]) rfl ?_
  exact HG.out
theorem cmp_low (b b':Bool)(X Y:Nat)(hb:b=decide (zba b X<0))(hb':b'=decide (zba b' Y<0)):zhM (zba b X) (zba b' Y)=if b then(if b' then zcC Y X else -1) else(if b' then 1 else zcC X Y):=by
 unfold zhM zcC
 unfold zba at*
 cases b<;>cases b'<;>simp at* <;>(repeat' split)<;>omega
theorem zmS (x y:Int)(b b':Bool)(A D:oA9)(n m c d:Nat)(w:World)(hA:zaG w x b A n c)(hD:zaG w y b' D m d)(hn:n<=274877906944)(hm:m<=274877906944):
  Calls Tryz.prog 100 #[.agg #[.bool b,.slice A n c],.agg #[.bool b',.slice D m d]] w (zcH w (zhM x y)):=by
 have hx:=zgl x
 have hy:=zgl y
 rw [<-hA.1] at hx
 rw [<-hD.1] at hy
 have hc:=cmp_low b b' x.natAbs y.natAbs (by rw [hx];exact hA.1) (by rw [hy];exact hD.1)
 rw [hx,hy] at hc
 rw [hc]
 have H1:=lh9 (λw' (h:Below w.heap.size w w')=>zfe x.natAbs y.natAbs A D n m c d w' (hA.2.below h) (hD.2.below h) (by omega) (by omega))
 have H2:=lh9 (λw' (h:Below w.heap.size w w')=>zfe y.natAbs x.natAbs D A m n d c w' (hD.2.below h) (hA.2.below h) (by omega) (by omega))
 obtain⟨p,hp⟩:∃p,zcC x.natAbs y.natAbs=p:=⟨_,rfl⟩
 obtain⟨q,hq⟩:∃p,zcC y.natAbs x.natAbs=p:=⟨_,rfl⟩
 rw [hp] at H1⊢
 rw [hq] at H2⊢
 clear hA hD hx hy hc hp hq
 cases b<;>cases b'
 ·skip
  obtain⟨hB,b2,b3,b5⟩:=zbI w 39 39 #[.bool false,.slice A n c] #[.bool false,.slice D m d]
  have HC:=lh9 (H1.out _ hB)
  clear H1 H2
  go_enter Tryz.func100,Tryz.ntmps100
  go_wp2_with fail
  refine HC.out.mono ?_
  rintro e w1 ⟨rfl,hb⟩
  have hB1:=zab hB hb
  clear hb hB HC b2 b3 b5
  go_wp2
  go_ret
  exact⟨rfl,hB1⟩
 ·skip
  obtain⟨hB,b2,b3,b5⟩:=zbI w 39 39 #[.bool false,.slice A n c] #[.bool true,.slice D m d]
  have HC:=lh9 (H1.out _ hB)
  clear H1 H2
  go_enter Tryz.func100,Tryz.ntmps100
  clear HC b2 b3 b5
  go_wp2
  go_ret
  exact⟨rfl,hB⟩
 ·skip
  obtain⟨hB,b2,b3,b5⟩:=zbI w 39 39 #[.bool true,.slice A n c] #[.bool false,.slice D m d]
  have HC:=lh9 (H2.out _ hB)
  clear H1 H2
  go_enter Tryz.func100,Tryz.ntmps100
  clear HC b2 b3 b5
  go_wp2
  go_ret
  exact⟨rfl,hB⟩
 ·skip
  obtain⟨hB,b2,b3,b5⟩:=zbI w 39 39 #[.bool true,.slice A n c] #[.bool true,.slice D m d]
  have HC:=lh9 (H2.out _ hB)
  clear H1 H2
  go_enter Tryz.func100,Tryz.ntmps100
  go_wp2_with fail
  refine HC.out.mono ?_
  rintro e w1 ⟨rfl,hb⟩
  have hB1:=zab hB hb
  clear hb hB HC b2 b3 b5
  go_wp2
  go_ret
  exact⟨rfl,hB1⟩
