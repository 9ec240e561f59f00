/- What this claim leans on. -/
import Derived.Test.YtlgnacmgepnamaaGreatDoorMVMath
namespace Go.Proofs.YtlgnacmgepnamaaGreatDoor
open Go Go.RowKit
set_option maxHeartbeats 16000000
set_option maxRecDepth 100000
set_option linter.unusedVariables false
set_option linter.unusedSimpArgs false
def zaU (w:World)(z:Int)(b:Bool)(A:oA9)(n c:Nat):Prop:=b=decide (z<0)/\zak w z.natAbs A n c
theorem zaU.below {w w':World}{z:Int}{b:Bool}{A:oA9}{n c:Nat}(h:zaU w z b A n c)(hb:Below w.heap.size w w'):zaU w' z b A n c:=⟨h.1,h.2.below hb⟩
theorem zaU.holds {w:World}{z:Int}{b:Bool}{A:oA9}{n c:Nat}(h:zaU w z b A n c):zak w z.natAbs A n c:=h.2
theorem zaU.to {w:World}{z z':Int}{b:Bool}{A:oA9}{n c:Nat}(e:z=z')(h:zaU w z b A n c):zaU w z' b A n c:=e▸h
def zaY (w:World)(z:Int)(e:Ending)(w':World):Prop:=∃(b:Bool) (A:oA9) (n c:Nat),e=.returned (.agg #[.bool b,.slice A n c])/\zaU w' z b A n c/\Below w.heap.size w w'
theorem zjR {w:World}{A:oA9}{n g:Nat}{k:IntKind}{l:List Nat}{t:TypeId}{cs:Array Value}(h:zau w w.heap.size 1 A n (zaw k l))(hk:Blk w g t cs)(hcs:∀v ∈ cs.toList,∀z,v≠.int k z):0<n->∀ad,A=some ad->ad.block≠g:=λhn ad e hg=>by
 have hl:=h.len_
 obtain⟨ad',e',_,hc⟩:=h.2 hn
 rw [e] at e'
 injection e' with e'
 subst e'
 have h0:=hc 0 (.int k (l.getD 0 0:Nat)) (zcu k _ 0 (by omega))
 have e0:ad.add 0=ad:=by unfold Addr.add;rw [if_pos rfl]
 rw [e0] at h0
 obtain⟨bk,off,pr⟩:=ad
 simp only at hg
 subst hg
 unfold Blk at hk
 cases pr with
 |none=>
   rw [show w.cell? ⟨bk,off,none⟩=cs[off]? from cell_of_row w bk off _ t (0,0) hk,<-Array.getElem?_toList] at h0
   exact hcs _ (List.mem_of_getElem? h0) _ rfl
 |some q=>simp [World.cell?,hk] at h0
theorem zih {w:World}{A:oA9}{n c x:Nat}(h:zak w x A n c){p:Addr}(hp:0<n->∀ad,A=some ad->ad.block≠p.block)(u:Value):zak (w.setCell p u) x A n c:=by
 obtain⟨hr,h1,h2⟩:=h
 refine⟨⟨hr.1,λhn=>?_⟩,h1,h2⟩
 obtain⟨ad,e,hb,hc⟩:=hr.2 hn
 refine⟨ad,e,by simpa using hb,λj v hv=>?_⟩
 refine(World.cell?_setCell_other w p _ u (λe2=>hp hn ad e ?_)).trans (hc j v hv)
 have:=congrArg Addr.block e2
 rw [zap] at this
 first|exact this|exact this.symm
theorem zfY {w:World}{x:Nat}{p:Bool}{A q:oA9}{n c r s g:Nat}{t:TypeId}(h:zak w x A n c)(hk:Blk w g t #[.bool p,.slice q r s])(p':Bool)(q':oA9)(r' s':Nat):
  zak ((w.setCell ⟨g,0,none⟩ (.bool p')).setCell ⟨g,1,none⟩ (.slice q' r' s')) x A n c:=by
 have h1:=zih (p:=⟨g,0,none⟩) h (zjR h.1 hk (by intro v hv;simp at hv;rcases hv with rfl|rfl<;>intro z e<;>cases e)) (.bool p')
 exact zih (p:=⟨g,1,none⟩) h1 (zjR h1.1 (hk.set_ 0 (.bool p')) (by intro v hv;simp at hv;rcases hv with rfl|rfl<;>intro z e<;>cases e)) _
theorem zcD {w:World}{z:Int}{b p:Bool}{A q:oA9}{n c r s g:Nat}{t:TypeId}(h:zaU w z b A n c)(hk:Blk w g t #[.bool p,.slice q r s])(p':Bool)(q':oA9)(r' s':Nat):
  zaU ((w.setCell ⟨g,0,none⟩ (.bool p')).setCell ⟨g,1,none⟩ (.slice q' r' s')) z b A n c:=⟨h.1,zfY h.2 hk p' q' r' s'⟩
def sgI (s:Bool)(x:Nat):Int:=if s then -(x:Int) else(x:Int)
theorem zgK (s:Bool)(x:Nat):(sgI s x).natAbs=x:=by unfold sgI;split<;>omega
theorem sgI_neg (s:Bool)(x:Nat):decide (sgI s x<0)=(s&&decide (0<x)):=by unfold sgI;cases s<;>simp
theorem len16_ne {w:World}{x:Nat}{A:oA9}{n c:Nat}(h:zak w x A n c):decide (0<n)=decide (0<x):=by
 rw [h.len]
 by_cases hx:x=0
 ·subst hx;rfl
 ·have:=(zhj (b:=65536) (by decide) x hx).1
  rw [decide_eq_true (by omega:0<x),decide_eq_true (by omega)]
theorem zbp (s:Bool)(x:Nat)(A:oA9)(n c:Nat)(w:World)(h:zak w x A n c)(hn:n<=1099511627776):
  Calls Tryz.prog 92 #[.bool s,.slice A n c] w (zaY w (sgI s x)):=by
 obtain⟨hB,b2,b5⟩:=zaD w 92 #[.bool false,.slice none 0 0]
 have hh:=h.below hB
 have hsx:=sgI_neg s x
 rw [<-len16_ne h] at hsx
 have HSX:=lh9 hsx
 have HSA:=lh9 (zgK s x)
 clear h hsx
 cases s
 ·go_enter Tryz.func92,Tryz.ntmps92
  generalize hW:w.alloc (.cells #[.bool false,.slice none 0 0] 92)=W0 at*
  have hk9:=(b2.set_ 0 (.bool false)).set_ 1 (.slice A n c)
  have r0:=hk9.cell 0
  have r1:=hk9.cell 1
  have c0:=b2.cell 0
  have f0:=b2.frozen 0
  have c1:(W0.setCell ⟨w.heap.size,0,none⟩ (.bool false)).cell? ⟨w.heap.size,1,none⟩=some (.slice none 0 0):=(b2.set_ 0 (.bool false)).cell 1
  have f1:=(b2.set_ 0 (.bool false)).frozen 1
  have HG : Hid (zaY w (sgI false x) (.returned (.agg #[.bool false,.slice A n c])) ((W0.setCell ⟨w.heap.size,0,none⟩ (.bool false)).setCell ⟨w.heap.size,1,none⟩ (.slice A n c))) :=
   ⟨false,A,n,c,rfl,⟨by rw [HSX.out];rfl,by rw [HSA.out];exact zfY hh b2 _ _ _ _⟩,zaf _ (Nat.le_refl _) (zaf _ (Nat.le_refl _) hB)⟩
  clear hk9 b2 hh hB
  go_wp2
  refine bodyPost_ret (v:=.agg #[.bool false,.slice A n c]) (by simp [results,Tryz.results92,go_sem,r0,r1]) rfl ?_
  exact HG.out
 ·have hd:decide ((0:Int)<(n:Int))=decide (0<n):=by by_cases h:0<n<;>simp [h]
  obtain⟨d,hd2⟩:∃d,decide (0<n)=d:=⟨_,rfl⟩
  rw [hd2] at hd HSX
  have hd3:decide ((n:Int)>0)=d:=hd
  go_enter Tryz.func92,Tryz.ntmps92
  generalize hW:w.alloc (.cells #[.bool false,.slice none 0 0] 92)=W0 at*
  have hk9:=(b2.set_ 0 (.bool d)).set_ 1 (.slice A n c)
  have r0:=hk9.cell 0
  have r1:=hk9.cell 1
  have c0:=b2.cell 0
  have f0:=b2.frozen 0
  have c1:(W0.setCell ⟨w.heap.size,0,none⟩ (.bool d)).cell? ⟨w.heap.size,1,none⟩=some (.slice none 0 0):=(b2.set_ 0 (.bool d)).cell 1
  have f1:=(b2.set_ 0 (.bool d)).frozen 1
  have HG : Hid (zaY w (sgI true x) (.returned (.agg #[.bool d,.slice A n c])) ((W0.setCell ⟨w.heap.size,0,none⟩ (.bool d)).setCell ⟨w.heap.size,1,none⟩ (.slice A n c))) :=
   ⟨d,A,n,c,rfl,⟨by rw [HSX.out];rfl,by rw [HSA.out];exact zfY hh b2 _ _ _ _⟩,zaf _ (Nat.le_refl _) (zaf _ (Nat.le_refl _) hB)⟩
  clear hk9 b2 hh hB
  go_wp2
  refine bodyPost_ret (v:=.agg #[.bool d,.slice A n c]) (by simp [results,Tryz.results92,go_sem,r0,r1]) rfl ?_
  exact HG.out
theorem zov (n m:Nat):65536^n+65536^m<=65536^(n+m+1):=by
 have h1:65536^n<=65536^(n+m):=Nat.pow_le_pow_right (by decide) (by omega)
 have h2:65536^m<=65536^(n+m):=Nat.pow_le_pow_right (by decide) (by omega)
 rw [Nat.pow_succ]
 omega
theorem ref7_add (x y:Int)(b b':Bool)(A D:oA9)(n m c d:Nat)(w:World)(hA:zaU w x b A n c)(hD:zaU w y b' D m d)(hn:n<=4294967296)(hm:m<=4294967296):
  Calls Tryz.prog 141 #[.agg #[.bool b,.slice A n c],.agg #[.bool b',.slice D m d]] w (zaY w (x+y)):=by
 obtain⟨hB,x1,x2,hk,x5⟩:=zbm w 92 92 92 #[.bool b,.slice A n c] #[.bool b',.slice D m d] #[.bool false,.slice none 0 0]
 have HHA:=lh9 (λw' (h:Below w.heap.size w w')=>hA.2.below h)
 have HHD:=lh9 (λw' (h:Below w.heap.size w w')=>hD.2.below h)
 have hba:=hA.1
 have hbd:=hD.1
 have hln:=hA.2.len
 have hlm:=hD.2.len
 obtain⟨X,hX⟩:∃q,x.natAbs=q:=⟨_,rfl⟩
 obtain⟨Y,hY⟩:∃q,y.natAbs=q:=⟨_,rfl⟩
 rw [hX] at HHA hln
 rw [hY] at HHD hlm
 have HLX:Hid (X<65536^n):=by show _<_;rw [hln];exact zaS (by decide) X
 have HLY:Hid (Y<65536^m):=by show _<_;rw [hlm];exact zaS (by decide) Y
 clear hA hD hln hlm
 have HXY:=lh9 (ziJ X Y)
 have HCM:=lh9 (λw' (h:Below w.heap.size w w')=>zfq X Y A D n m c d w' (HHA.out w' h) (HHD.out w' h) (by omega) (by omega))
 cases b<;>cases b'
 ·have h1:0<=x:=by simpa using hba
  have h2:0<=y:=by simpa using hbd
  have HXL:Hid (∀q,q=(dg 65536 (X+Y)).length->q<=1099511627776):=λq hq=>by
   rw [hq]
   refine Nat.le_trans (zaJ (by decide) _ (n+m+1) ?_) (by omega)
   exact Nat.lt_of_lt_of_le (Nat.add_lt_add HLX.out HLY.out) (zov _ _)
  have HNW:=lh9 (λw' A n c (h:zak w' (X+Y) A n c) hl=>zbp false (X+Y) A n c w' h hl)
  have HZ:Hid (x+y=sgI false (X+Y)):=by show _=_;unfold sgI;simp only [Bool.false_eq_true,if_true,if_false];omega
  have HAD:=lh9 (λw' (h:Below w.heap.size w w')=>HXY.out A D n m c d w' (HHA.out w' h) (HHD.out w' h) (by omega) (by omega))
  clear hba hbd h1 h2 hX hY
  go_enter Tryz.func141,Tryz.ntmps141
  go_wp2_with fail
  generalize ((w.alloc (.cells #[.bool false,.slice A n c] 92)).alloc (.cells #[.bool false,.slice D m d] 92)).alloc (.cells #[.bool false,.slice none 0 0] 92)=W0 at*
  have g1:W0.cell? ⟨w.heap.size,0,none⟩=some (.bool false):=x1.cell 0
  have e1:W0.cell? ⟨w.heap.size,1,none⟩=some (.slice A n c):=x1.cell 1
  have g2:W0.cell? ⟨w.heap.size+1,0,none⟩=some (.bool false):=x2.cell 0
  have e2:W0.cell? ⟨w.heap.size+1,1,none⟩=some (.slice D m d):=x2.cell 1
  clear x1 x2 x5
  have j0:W0.drew.cell? ⟨w.heap.size,0,none⟩=some (.bool false):=g1
  have j1:W0.drew.cell? ⟨w.heap.size,1,none⟩=some (.slice A n c):=e1
  have j2:W0.drew.cell? ⟨w.heap.size+1,1,none⟩=some (.slice D m d):=e2
  have hb0:=hB.drew
  have hk0:=hk.drew
  go_region_held3 (fun w' => Below w.heap.size w w' ∧ w'.cell? ⟨w.heap.size,0,none⟩ = some (.bool false) ∧ w'.cell? ⟨w.heap.size,1,none⟩ = some (.slice A n c) ∧ w'.cell? ⟨w.heap.size + 1,1,none⟩ = some (.slice D m d))
   (first|(exact⟨hb0,j0,j1,j2⟩)|(go_split_ands;(repeat' apply And.intro);all_goals (first|with_reducible assumption|exact zac (by with_reducible assumption) hb|exact zae hb (by with_reducible assumption)|exact zaf _ (by dsimp only;omega) (zaf _ (by dsimp only;omega) (by with_reducible assumption))|exact zah _ (by dsimp only;omega) (zah _ (by dsimp only;omega) (by with_reducible assumption)))))
   (first
     |(go_at_call 162;(with_reducible refine(HAD.out _ (by first|with_reducible assumption|exact And.left (by with_reducible assumption))).mono ?_);intro e w2 hg;obtain⟨A2,n2,c2,rfl,hh2,hb⟩:=hg.elim;have hk1:=zad hb hk0;have hl2:=HXL.out n2 hh2.len)
     |(go_at_call 92;(with_reducible refine(HNW.out _ _ _ _ hh2 hl2).mono ?_);rintro e w3 ⟨b3,A3,n3,c3,rfl,hw3,hb⟩;go_split_ands;have hk2:=zad hb hk1;have c0:=hk2.cell 0;have f0:=hk2.frozen 0;have c1:(w3.setCell ⟨w.heap.size+1+1,0,none⟩ (.bool b3)).cell? ⟨w.heap.size+1+1,1,none⟩=some (.slice none 0 0):=(hk2.set_ 0 (.bool b3)).cell 1;have f1:=(hk2.set_ 0 (.bool b3)).frozen 1;have hbb:Below w.heap.size w w3:=zac (by with_reducible assumption) hb))
  have hk9:=(hk2.set_ 0 (.bool b3)).set_ 1 (.slice A3 n3 c3)
  have r0:=hk9.cell 0
  have r1:=hk9.cell 1
  have hwz:=zcD hw3 hk2 b3 A3 n3 c3
  have hbz:=zaf (p:=⟨w.heap.size+1+1,1,none⟩) (.slice A3 n3 c3) (by dsimp only;omega) (zaf (p:=⟨w.heap.size+1+1,0,none⟩) (.bool b3) (by dsimp only;omega) hbb)
  have HG:Hid (zaY w (x+y) (.returned (.agg #[.bool b3,.slice A3 n3 c3])) ((w3.setCell ⟨w.heap.size+1+1,0,none⟩ (.bool b3)).setCell ⟨w.heap.size+1+1,1,none⟩ (.slice A3 n3 c3))):=by
   show zaY _ _ _ _
   rw [HZ.out]
   exact⟨b3,A3,n3,c3,rfl,hwz,hbz⟩
  clear hk9 hwz hbz hbb hw3 c0 c1 f0 f1 hb0 hb
  go_wp2
  refine bodyPost_ret (v:=.agg #[.bool b3,.slice A3 n3 c3]) (by simp [results,Tryz.results141,go_sem,r0,r1]) rfl ?_
  exact HG.out
 ·have h1:0<=x:=by simpa using hba
  have h2:y<0:=by simpa using hbd
  by_cases hle:Y<=X
  ·have hcm:0<=zbi X Y:=zkq hle
   have HXL:Hid (∀q,q=(dg 65536 (X - Y)).length->q<=1099511627776):=λq hq=>by
    rw [hq]
    refine Nat.le_trans (zaJ (by decide) _ (n+m+1) ?_) (by omega)
    exact Nat.lt_of_le_of_lt (Nat.sub_le _ _) (Nat.lt_of_lt_of_le HLX.out (Nat.pow_le_pow_right (by decide) (by omega)))
   have HNW:=lh9 (λw' A n c (h:zak w' (X - Y) A n c) hl=>zbp false (X - Y) A n c w' h hl)
   have HZ:Hid (x+y=sgI false (X - Y)):=by show _=_;unfold sgI;simp only [Bool.false_eq_true,if_true,if_false];omega
   have HAD:=lh9 (λw' (h:Below w.heap.size w w')=>zda X Y hle A D n m c d w' (HHA.out w' h) (HHD.out w' h) (by omega) (by omega))
   obtain⟨cm,hcme⟩:∃q,zbi X Y=q:=⟨_,rfl⟩
   rw [hcme] at hcm HCM
   have kc:decide (0<=cm)=true:=by simp;omega
   clear hba hbd h1 h2 hX hY hle hcme
   go_enter Tryz.func141,Tryz.ntmps141
   go_wp2_with fail
   generalize ((w.alloc (.cells #[.bool false,.slice A n c] 92)).alloc (.cells #[.bool true,.slice D m d] 92)).alloc (.cells #[.bool false,.slice none 0 0] 92)=W0 at*
   have g1:W0.cell? ⟨w.heap.size,0,none⟩=some (.bool false):=x1.cell 0
   have e1:W0.cell? ⟨w.heap.size,1,none⟩=some (.slice A n c):=x1.cell 1
   have g2:W0.cell? ⟨w.heap.size+1,0,none⟩=some (.bool true):=x2.cell 0
   have e2:W0.cell? ⟨w.heap.size+1,1,none⟩=some (.slice D m d):=x2.cell 1
   clear x1 x2 x5
   refine(HCM.out _ hB).mono ?_
   rintro e w1 ⟨rfl,qd,rfl⟩
   have hB:=zaL hB qd
   have hk:=hk.drewN qd
   have g1:(W0.drewN qd).cell? ⟨w.heap.size,0,none⟩=some (.bool false):=g1
   have e1:(W0.drewN qd).cell? ⟨w.heap.size,1,none⟩=some (.slice A n c):=e1
   have g2:(W0.drewN qd).cell? ⟨w.heap.size+1,0,none⟩=some (.bool true):=g2
   have e2:(W0.drewN qd).cell? ⟨w.heap.size+1,1,none⟩=some (.slice D m d):=e2
   go_wp2_with fail
   generalize W0.drewN qd=W0 at*
   have j0:W0.drew.cell? ⟨w.heap.size,0,none⟩=some (.bool false):=g1
   have j1:W0.drew.cell? ⟨w.heap.size,1,none⟩=some (.slice A n c):=e1
   have j2:W0.drew.cell? ⟨w.heap.size+1,1,none⟩=some (.slice D m d):=e2
   have hb0:=hB.drew
   have hk0:=hk.drew
   go_region_held3 (fun w' => Below w.heap.size w w' ∧ w'.cell? ⟨w.heap.size,0,none⟩ = some (.bool false) ∧ w'.cell? ⟨w.heap.size,1,none⟩ = some (.slice A n c) ∧ w'.cell? ⟨w.heap.size + 1,1,none⟩ = some (.slice D m d))
    (first|(exact⟨hb0,j0,j1,j2⟩)|(go_split_ands;(repeat' apply And.intro);all_goals (first|with_reducible assumption|exact zac (by with_reducible assumption) hb|exact zae hb (by with_reducible assumption)|exact zaf _ (by dsimp only;omega) (zaf _ (by dsimp only;omega) (by with_reducible assumption))|exact zah _ (by dsimp only;omega) (zah _ (by dsimp only;omega) (by with_reducible assumption)))))
    (first
      |(go_at_call 158;(with_reducible refine(HAD.out _ (by first|with_reducible assumption|exact And.left (by with_reducible assumption))).mono ?_);intro e w2 hg;obtain⟨A2,n2,c2,rfl,hh2,hb⟩:=hg.elim;have hk1:=zad hb hk0;have hl2:=HXL.out n2 hh2.len)
      |(go_at_call 92;(with_reducible refine(HNW.out _ _ _ _ hh2 hl2).mono ?_);rintro e w3 ⟨b3,A3,n3,c3,rfl,hw3,hb⟩;go_split_ands;have hk2:=zad hb hk1;have c0:=hk2.cell 0;have f0:=hk2.frozen 0;have c1:(w3.setCell ⟨w.heap.size+1+1,0,none⟩ (.bool b3)).cell? ⟨w.heap.size+1+1,1,none⟩=some (.slice none 0 0):=(hk2.set_ 0 (.bool b3)).cell 1;have f1:=(hk2.set_ 0 (.bool b3)).frozen 1;have hbb:Below w.heap.size w w3:=zac (by with_reducible assumption) hb))
   have hk9:=(hk2.set_ 0 (.bool b3)).set_ 1 (.slice A3 n3 c3)
   have r0:=hk9.cell 0
   have r1:=hk9.cell 1
   have hwz:=zcD hw3 hk2 b3 A3 n3 c3
   have hbz:=zaf (p:=⟨w.heap.size+1+1,1,none⟩) (.slice A3 n3 c3) (by dsimp only;omega) (zaf (p:=⟨w.heap.size+1+1,0,none⟩) (.bool b3) (by dsimp only;omega) hbb)
   have HG:Hid (zaY w (x+y) (.returned (.agg #[.bool b3,.slice A3 n3 c3])) ((w3.setCell ⟨w.heap.size+1+1,0,none⟩ (.bool b3)).setCell ⟨w.heap.size+1+1,1,none⟩ (.slice A3 n3 c3))):=by
    show zaY _ _ _ _
    rw [HZ.out]
    exact⟨b3,A3,n3,c3,rfl,hwz,hbz⟩
   clear hk9 hwz hbz hbb hw3 c0 c1 f0 f1 hb0 hb
   go_wp2
   refine bodyPost_ret (v:=.agg #[.bool b3,.slice A3 n3 c3]) (by simp [results,Tryz.results141,go_sem,r0,r1]) rfl ?_
   exact HG.out
  ·have hcm:zbi X Y<0:=by rw [zcj (by omega)];decide
   have HXL:Hid (∀q,q=(dg 65536 (Y - X)).length->q<=1099511627776):=λq hq=>by
    rw [hq]
    refine Nat.le_trans (zaJ (by decide) _ (n+m+1) ?_) (by omega)
    exact Nat.lt_of_le_of_lt (Nat.sub_le _ _) (Nat.lt_of_lt_of_le HLY.out (Nat.pow_le_pow_right (by decide) (by omega)))
   have HNW:=lh9 (λw' A n c (h:zak w' (Y - X) A n c) hl=>zbp true (Y - X) A n c w' h hl)
   have HZ:Hid (x+y=sgI true (Y - X)):=by show _=_;unfold sgI;simp only [Bool.false_eq_true,if_true,if_false];omega
   have HAD:=lh9 (λw' (h:Below w.heap.size w w')=>zda Y X (by omega) D A m n d c w' (HHD.out w' h) (HHA.out w' h) (by omega) (by omega))
   obtain⟨cm,hcme⟩:∃q,zbi X Y=q:=⟨_,rfl⟩
   rw [hcme] at hcm HCM
   have kc:decide (0<=cm)=false:=by simp;omega
   clear hba hbd h1 h2 hX hY hle hcme
   go_enter Tryz.func141,Tryz.ntmps141
   go_wp2_with fail
   generalize ((w.alloc (.cells #[.bool false,.slice A n c] 92)).alloc (.cells #[.bool true,.slice D m d] 92)).alloc (.cells #[.bool false,.slice none 0 0] 92)=W0 at*
   have g1:W0.cell? ⟨w.heap.size,0,none⟩=some (.bool false):=x1.cell 0
   have e1:W0.cell? ⟨w.heap.size,1,none⟩=some (.slice A n c):=x1.cell 1
   have g2:W0.cell? ⟨w.heap.size+1,0,none⟩=some (.bool true):=x2.cell 0
   have e2:W0.cell? ⟨w.heap.size+1,1,none⟩=some (.slice D m d):=x2.cell 1
   clear x1 x2 x5
   refine(HCM.out _ hB).mono ?_
   rintro e w1 ⟨rfl,qd,rfl⟩
   have hB:=zaL hB qd
   have hk:=hk.drewN qd
   have g1:(W0.drewN qd).cell? ⟨w.heap.size,0,none⟩=some (.bool false):=g1
   have e1:(W0.drewN qd).cell? ⟨w.heap.size,1,none⟩=some (.slice A n c):=e1
   have g2:(W0.drewN qd).cell? ⟨w.heap.size+1,0,none⟩=some (.bool true):=g2
   have e2:(W0.drewN qd).cell? ⟨w.heap.size+1,1,none⟩=some (.slice D m d):=e2
   go_wp2_with fail
   generalize W0.drewN qd=W0 at*
   have j0:W0.drew.cell? ⟨w.heap.size+1,0,none⟩=some (.bool true):=g2
   have j1:W0.drew.cell? ⟨w.heap.size+1,1,none⟩=some (.slice D m d):=e2
   have j2:W0.drew.cell? ⟨w.heap.size,1,none⟩=some (.slice A n c):=e1
   have hb0:=hB.drew
   have hk0:=hk.drew
   go_region_held3 (fun w' => Below w.heap.size w w' ∧ w'.cell? ⟨w.heap.size + 1,0,none⟩ = some (.bool true) ∧ w'.cell? ⟨w.heap.size + 1,1,none⟩ = some (.slice D m d) ∧ w'.cell? ⟨w.heap.size,1,none⟩ = some (.slice A n c))
    (first|(exact⟨hb0,j0,j1,j2⟩)|(go_split_ands;(repeat' apply And.intro);all_goals (first|with_reducible assumption|exact zac (by with_reducible assumption) hb|exact zae hb (by with_reducible assumption)|exact zaf _ (by dsimp only;omega) (zaf _ (by dsimp only;omega) (by with_reducible assumption))|exact zah _ (by dsimp only;omega) (zah _ (by dsimp only;omega) (by with_reducible assumption)))))
    (first
      |(go_at_call 158;(with_reducible refine(HAD.out _ (by first|with_reducible assumption|exact And.left (by with_reducible assumption))).mono ?_);intro e w2 hg;obtain⟨A2,n2,c2,rfl,hh2,hb⟩:=hg.elim;have hk1:=zad hb hk0;have hl2:=HXL.out n2 hh2.len)
      |(go_at_call 92;(with_reducible refine(HNW.out _ _ _ _ hh2 hl2).mono ?_);rintro e w3 ⟨b3,A3,n3,c3,rfl,hw3,hb⟩;go_split_ands;have hk2:=zad hb hk1;have c0:=hk2.cell 0;have f0:=hk2.frozen 0;have c1:(w3.setCell ⟨w.heap.size+1+1,0,none⟩ (.bool b3)).cell? ⟨w.heap.size+1+1,1,none⟩=some (.slice none 0 0):=(hk2.set_ 0 (.bool b3)).cell 1;have f1:=(hk2.set_ 0 (.bool b3)).frozen 1;have hbb:Below w.heap.size w w3:=zac (by with_reducible assumption) hb))
   have hk9:=(hk2.set_ 0 (.bool b3)).set_ 1 (.slice A3 n3 c3)
   have r0:=hk9.cell 0
   have r1:=hk9.cell 1
   have hwz:=zcD hw3 hk2 b3 A3 n3 c3
   have hbz:=zaf (p:=⟨w.heap.size+1+1,1,none⟩) (.slice A3 n3 c3) (by dsimp only;omega) (zaf (p:=⟨w.heap.size+1+1,0,none⟩) (.bool b3) (by dsimp only;omega) hbb)
   have HG:Hid (zaY w (x+y) (.returned (.agg #[.bool b3,.slice A3 n3 c3])) ((w3.setCell ⟨w.heap.size+1+1,0,none⟩ (.bool b3)).setCell ⟨w.heap.size+1+1,1,none⟩ (.slice A3 n3 c3))):=by
    show zaY _ _ _ _
    rw [HZ.out]
    exact⟨b3,A3,n3,c3,rfl,hwz,hbz⟩
   clear hk9 hwz hbz hbb hw3 c0 c1 f0 f1 hb0 hb
   go_wp2
   refine bodyPost_ret (v:=.agg #[.bool b3,.slice A3 n3 c3]) (by simp [results,Tryz.results141,go_sem,r0,r1]) rfl ?_
   exact HG.out
 ·have h1:x<0:=by simpa using hba
  have h2:0<=y:=by simpa using hbd
  by_cases hle:Y<=X
  ·have hcm:0<=zbi X Y:=zkq hle
   have HXL:Hid (∀q,q=(dg 65536 (X - Y)).length->q<=1099511627776):=λq hq=>by
    rw [hq]
    refine Nat.le_trans (zaJ (by decide) _ (n+m+1) ?_) (by omega)
    exact Nat.lt_of_le_of_lt (Nat.sub_le _ _) (Nat.lt_of_lt_of_le HLX.out (Nat.pow_le_pow_right (by decide) (by omega)))
   have HNW:=lh9 (λw' A n c (h:zak w' (X - Y) A n c) hl=>zbp true (X - Y) A n c w' h hl)
   have HZ:Hid (x+y=sgI true (X - Y)):=by show _=_;unfold sgI;simp only [Bool.false_eq_true,if_true,if_false];omega
   have HAD:=lh9 (λw' (h:Below w.heap.size w w')=>zda X Y hle A D n m c d w' (HHA.out w' h) (HHD.out w' h) (by omega) (by omega))
   obtain⟨cm,hcme⟩:∃q,zbi X Y=q:=⟨_,rfl⟩
   rw [hcme] at hcm HCM
   have kc:decide (0<=cm)=true:=by simp;omega
   clear hba hbd h1 h2 hX hY hle hcme
   go_enter Tryz.func141,Tryz.ntmps141
   go_wp2_with fail
   generalize ((w.alloc (.cells #[.bool true,.slice A n c] 92)).alloc (.cells #[.bool false,.slice D m d] 92)).alloc (.cells #[.bool false,.slice none 0 0] 92)=W0 at*
   have g1:W0.cell? ⟨w.heap.size,0,none⟩=some (.bool true):=x1.cell 0
   have e1:W0.cell? ⟨w.heap.size,1,none⟩=some (.slice A n c):=x1.cell 1
   have g2:W0.cell? ⟨w.heap.size+1,0,none⟩=some (.bool false):=x2.cell 0
   have e2:W0.cell? ⟨w.heap.size+1,1,none⟩=some (.slice D m d):=x2.cell 1
   clear x1 x2 x5
   refine(HCM.out _ hB).mono ?_
   rintro e w1 ⟨rfl,qd,rfl⟩
   have hB:=zaL hB qd
   have hk:=hk.drewN qd
   have g1:(W0.drewN qd).cell? ⟨w.heap.size,0,none⟩=some (.bool true):=g1
   have e1:(W0.drewN qd).cell? ⟨w.heap.size,1,none⟩=some (.slice A n c):=e1
   have g2:(W0.drewN qd).cell? ⟨w.heap.size+1,0,none⟩=some (.bool false):=g2
   have e2:(W0.drewN qd).cell? ⟨w.heap.size+1,1,none⟩=some (.slice D m d):=e2
   go_wp2_with fail
   generalize W0.drewN qd=W0 at*
   have j0:W0.drew.cell? ⟨w.heap.size,0,none⟩=some (.bool true):=g1
   have j1:W0.drew.cell? ⟨w.heap.size,1,none⟩=some (.slice A n c):=e1
   have j2:W0.drew.cell? ⟨w.heap.size+1,1,none⟩=some (.slice D m d):=e2
   have hb0:=hB.drew
   have hk0:=hk.drew
   go_region_held3 (fun w' => Below w.heap.size w w' ∧ w'.cell? ⟨w.heap.size,0,none⟩ = some (.bool true) ∧ w'.cell? ⟨w.heap.size,1,none⟩ = some (.slice A n c) ∧ w'.cell? ⟨w.heap.size + 1,1,none⟩ = some (.slice D m d))
    (first|(exact⟨hb0,j0,j1,j2⟩)|(go_split_ands;(repeat' apply And.intro);all_goals (first|with_reducible assumption|exact zac (by with_reducible assumption) hb|exact zae hb (by with_reducible assumption)|exact zaf _ (by dsimp only;omega) (zaf _ (by dsimp only;omega) (by with_reducible assumption))|exact zah _ (by dsimp only;omega) (zah _ (by dsimp only;omega) (by with_reducible assumption)))))
    (first
      |(go_at_call 158;(with_reducible refine(HAD.out _ (by first|with_reducible assumption|exact And.left (by with_reducible assumption))).mono ?_);intro e w2 hg;obtain⟨A2,n2,c2,rfl,hh2,hb⟩:=hg.elim;have hk1:=zad hb hk0;have hl2:=HXL.out n2 hh2.len)
      |(go_at_call 92;(with_reducible refine(HNW.out _ _ _ _ hh2 hl2).mono ?_);rintro e w3 ⟨b3,A3,n3,c3,rfl,hw3,hb⟩;go_split_ands;have hk2:=zad hb hk1;have c0:=hk2.cell 0;have f0:=hk2.frozen 0;have c1:(w3.setCell ⟨w.heap.size+1+1,0,none⟩ (.bool b3)).cell? ⟨w.heap.size+1+1,1,none⟩=some (.slice none 0 0):=(hk2.set_ 0 (.bool b3)).cell 1;have f1:=(hk2.set_ 0 (.bool b3)).frozen 1;have hbb:Below w.heap.size w w3:=zac (by with_reducible assumption) hb))
   have hk9:=(hk2.set_ 0 (.bool b3)).set_ 1 (.slice A3 n3 c3)
   have r0:=hk9.cell 0
   have r1:=hk9.cell 1
   have hwz:=zcD hw3 hk2 b3 A3 n3 c3
   have hbz:=zaf (p:=⟨w.heap.size+1+1,1,none⟩) (.slice A3 n3 c3) (by dsimp only;omega) (zaf (p:=⟨w.heap.size+1+1,0,none⟩) (.bool b3) (by dsimp only;omega) hbb)
   have HG:Hid (zaY w (x+y) (.returned (.agg #[.bool b3,.slice A3 n3 c3])) ((w3.setCell ⟨w.heap.size+1+1,0,none⟩ (.bool b3)).setCell ⟨w.heap.size+1+1,1,none⟩ (.slice A3 n3 c3))):=by
    show zaY _ _ _ _
    rw [HZ.out]
    exact⟨b3,A3,n3,c3,rfl,hwz,hbz⟩
   clear hk9 hwz hbz hbb hw3 c0 c1 f0 f1 hb0 hb
   go_wp2
   refine bodyPost_ret (v:=.agg #[.bool b3,.slice A3 n3 c3]) (by simp [results,Tryz.results141,go_sem,r0,r1]) rfl ?_
   exact HG.out
  ·have hcm:zbi X Y<0:=by rw [zcj (by omega)];decide
   have HXL:Hid (∀q,q=(dg 65536 (Y - X)).length->q<=1099511627776):=λq hq=>by
    rw [hq]
    refine Nat.le_trans (zaJ (by decide) _ (n+m+1) ?_) (by omega)
    exact Nat.lt_of_le_of_lt (Nat.sub_le _ _) (Nat.lt_of_lt_of_le HLY.out (Nat.pow_le_pow_right (by decide) (by omega)))
   have HNW:=lh9 (λw' A n c (h:zak w' (Y - X) A n c) hl=>zbp false (Y - X) A n c w' h hl)
   have HZ:Hid (x+y=sgI false (Y - X)):=by show _=_;unfold sgI;simp only [Bool.false_eq_true,if_true,if_false];omega
   have HAD:=lh9 (λw' (h:Below w.heap.size w w')=>zda Y X (by omega) D A m n d c w' (HHD.out w' h) (HHA.out w' h) (by omega) (by omega))
   obtain⟨cm,hcme⟩:∃q,zbi X Y=q:=⟨_,rfl⟩
   rw [hcme] at hcm HCM
   have kc:decide (0<=cm)=false:=by simp;omega
   clear hba hbd h1 h2 hX hY hle hcme
   go_enter Tryz.func141,Tryz.ntmps141
   go_wp2_with fail
   generalize ((w.alloc (.cells #[.bool true,.slice A n c] 92)).alloc (.cells #[.bool false,.slice D m d] 92)).alloc (.cells #[.bool false,.slice none 0 0] 92)=W0 at*
   have g1:W0.cell? ⟨w.heap.size,0,none⟩=some (.bool true):=x1.cell 0
   have e1:W0.cell? ⟨w.heap.size,1,none⟩=some (.slice A n c):=x1.cell 1
   have g2:W0.cell? ⟨w.heap.size+1,0,none⟩=some (.bool false):=x2.cell 0
   have e2:W0.cell? ⟨w.heap.size+1,1,none⟩=some (.slice D m d):=x2.cell 1
   clear x1 x2 x5
   refine(HCM.out _ hB).mono ?_
   rintro e w1 ⟨rfl,qd,rfl⟩
   have hB:=zaL hB qd
   have hk:=hk.drewN qd
   have g1:(W0.drewN qd).cell? ⟨w.heap.size,0,none⟩=some (.bool true):=g1
   have e1:(W0.drewN qd).cell? ⟨w.heap.size,1,none⟩=some (.slice A n c):=e1
   have g2:(W0.drewN qd).cell? ⟨w.heap.size+1,0,none⟩=some (.bool false):=g2
   have e2:(W0.drewN qd).cell? ⟨w.heap.size+1,1,none⟩=some (.slice D m d):=e2
   go_wp2_with fail
   generalize W0.drewN qd=W0 at*
   have j0:W0.drew.cell? ⟨w.heap.size+1,0,none⟩=some (.bool false):=g2
   have j1:W0.drew.cell? ⟨w.heap.size+1,1,none⟩=some (.slice D m d):=e2
   have j2:W0.drew.cell? ⟨w.heap.size,1,none⟩=some (.slice A n c):=e1
   have hb0:=hB.drew
   have hk0:=hk.drew
   go_region_held3 (fun w' => Below w.heap.size w w' ∧ w'.cell? ⟨w.heap.size + 1,0,none⟩ = some (.bool false) ∧ w'.cell? ⟨w.heap.size + 1,1,none⟩ = some (.slice D m d) ∧ w'.cell? ⟨w.heap.size,1,none⟩ = some (.slice A n c))
    (first|(exact⟨hb0,j0,j1,j2⟩)|(go_split_ands;(repeat' apply And.intro);all_goals (first|with_reducible assumption|exact zac (by with_reducible assumption) hb|exact zae hb (by with_reducible assumption)|exact zaf _ (by dsimp only;omega) (zaf _ (by dsimp only;omega) (by with_reducible assumption))|exact zah _ (by dsimp only;omega) (zah _ (by dsimp only;omega) (by with_reducible assumption)))))
    (first
      |(go_at_call 158;(with_reducible refine(HAD.out _ (by first|with_reducible assumption|exact And.left (by with_reducible assumption))).mono ?_);intro e w2 hg;obtain⟨A2,n2,c2,rfl,hh2,hb⟩:=hg.elim;have hk1:=zad hb hk0;have hl2:=HXL.out n2 hh2.len)
      |(go_at_call 92;(with_reducible refine(HNW.out _ _ _ _ hh2 hl2).mono ?_);rintro e w3 ⟨b3,A3,n3,c3,rfl,hw3,hb⟩;go_split_ands;have hk2:=zad hb hk1;have c0:=hk2.cell 0;have f0:=hk2.frozen 0;have c1:(w3.setCell ⟨w.heap.size+1+1,0,none⟩ (.bool b3)).cell? ⟨w.heap.size+1+1,1,none⟩=some (.slice none 0 0):=(hk2.set_ 0 (.bool b3)).cell 1;have f1:=(hk2.set_ 0 (.bool b3)).frozen 1;have hbb:Below w.heap.size w w3:=zac (by with_reducible assumption) hb))
   have hk9:=(hk2.set_ 0 (.bool b3)).set_ 1 (.slice A3 n3 c3)
   have r0:=hk9.cell 0
   have r1:=hk9.cell 1
   have hwz:=zcD hw3 hk2 b3 A3 n3 c3
   have hbz:=zaf (p:=⟨w.heap.size+1+1,1,none⟩) (.slice A3 n3 c3) (by dsimp only;omega) (zaf (p:=⟨w.heap.size+1+1,0,none⟩) (.bool b3) (by dsimp only;omega) hbb)
   have HG:Hid (zaY w (x+y) (.returned (.agg #[.bool b3,.slice A3 n3 c3])) ((w3.setCell ⟨w.heap.size+1+1,0,none⟩ (.bool b3)).setCell ⟨w.heap.size+1+1,1,none⟩ (.slice A3 n3 c3))):=by
    show zaY _ _ _ _
    rw [HZ.out]
    exact⟨b3,A3,n3,c3,rfl,hwz,hbz⟩
   clear hk9 hwz hbz hbb hw3 c0 c1 f0 f1 hb0 hb
   go_wp2
   refine bodyPost_ret (v:=.agg #[.bool b3,.slice A3 n3 c3]) (by simp [results,Tryz.results141,go_sem,r0,r1]) rfl ?_
   exact HG.out
 ·have h1:x<0:=by simpa using hba
  have h2:y<0:=by simpa using hbd
  have HXL:Hid (∀q,q=(dg 65536 (X+Y)).length->q<=1099511627776):=λq hq=>by
   rw [hq]
   refine Nat.le_trans (zaJ (by decide) _ (n+m+1) ?_) (by omega)
   exact Nat.lt_of_lt_of_le (Nat.add_lt_add HLX.out HLY.out) (zov _ _)
  have HNW:=lh9 (λw' A n c (h:zak w' (X+Y) A n c) hl=>zbp true (X+Y) A n c w' h hl)
  have HZ:Hid (x+y=sgI true (X+Y)):=by show _=_;unfold sgI;simp only [Bool.false_eq_true,if_true,if_false];omega
  have HAD:=lh9 (λw' (h:Below w.heap.size w w')=>HXY.out A D n m c d w' (HHA.out w' h) (HHD.out w' h) (by omega) (by omega))
  clear hba hbd h1 h2 hX hY
  go_enter Tryz.func141,Tryz.ntmps141
  go_wp2_with fail
  generalize ((w.alloc (.cells #[.bool true,.slice A n c] 92)).alloc (.cells #[.bool true,.slice D m d] 92)).alloc (.cells #[.bool false,.slice none 0 0] 92)=W0 at*
  have g1:W0.cell? ⟨w.heap.size,0,none⟩=some (.bool true):=x1.cell 0
  have e1:W0.cell? ⟨w.heap.size,1,none⟩=some (.slice A n c):=x1.cell 1
  have g2:W0.cell? ⟨w.heap.size+1,0,none⟩=some (.bool true):=x2.cell 0
  have e2:W0.cell? ⟨w.heap.size+1,1,none⟩=some (.slice D m d):=x2.cell 1
  clear x1 x2 x5
  have j0:W0.drew.cell? ⟨w.heap.size,0,none⟩=some (.bool true):=g1
  have j1:W0.drew.cell? ⟨w.heap.size,1,none⟩=some (.slice A n c):=e1
  have j2:W0.drew.cell? ⟨w.heap.size+1,1,none⟩=some (.slice D m d):=e2
  have hb0:=hB.drew
  have hk0:=hk.drew
  go_region_held3 (fun w' => Below w.heap.size w w' ∧ w'.cell? ⟨w.heap.size,0,none⟩ = some (.bool true) ∧ w'.cell? ⟨w.heap.size,1,none⟩ = some (.slice A n c) ∧ w'.cell? ⟨w.heap.size + 1,1,none⟩ = some (.slice D m d))
   (first|(exact⟨hb0,j0,j1,j2⟩)|(go_split_ands;(repeat' apply And.intro);all_goals (first|with_reducible assumption|exact zac (by with_reducible assumption) hb|exact zae hb (by with_reducible assumption)|exact zaf _ (by dsimp only;omega) (zaf _ (by dsimp only;omega) (by with_reducible assumption))|exact zah _ (by dsimp only;omega) (zah _ (by dsimp only;omega) (by with_reducible assumption)))))
   (first
     |(go_at_call 162;(with_reducible refine(HAD.out _ (by first|with_reducible assumption|exact And.left (by with_reducible assumption))).mono ?_);intro e w2 hg;obtain⟨A2,n2,c2,rfl,hh2,hb⟩:=hg.elim;have hk1:=zad hb hk0;have hl2:=HXL.out n2 hh2.len)
     |(go_at_call 92;(with_reducible refine(HNW.out _ _ _ _ hh2 hl2).mono ?_);rintro e w3 ⟨b3,A3,n3,c3,rfl,hw3,hb⟩;go_split_ands;have hk2:=zad hb hk1;have c0:=hk2.cell 0;have f0:=hk2.frozen 0;have c1:(w3.setCell ⟨w.heap.size+1+1,0,none⟩ (.bool b3)).cell? ⟨w.heap.size+1+1,1,none⟩=some (.slice none 0 0):=(hk2.set_ 0 (.bool b3)).cell 1;have f1:=(hk2.set_ 0 (.bool b3)).frozen 1;have hbb:Below w.heap.size w w3:=zac (by with_reducible assumption) hb))
  have hk9:=(hk2.set_ 0 (.bool b3)).set_ 1 (.slice A3 n3 c3)
  have r0:=hk9.cell 0
  have r1:=hk9.cell 1
  have hwz:=zcD hw3 hk2 b3 A3 n3 c3
  have hbz:=zaf (p:=⟨w.heap.size+1+1,1,none⟩) (.slice A3 n3 c3) (by dsimp only;omega) (zaf (p:=⟨w.heap.size+1+1,0,none⟩) (.bool b3) (by dsimp only;omega) hbb)
  have HG:Hid (zaY w (x+y) (.returned (.agg #[.bool b3,.slice A3 n3 c3])) ((w3.setCell ⟨w.heap.size+1+1,0,none⟩ (.bool b3)).setCell ⟨w.heap.size+1+1,1,none⟩ (.slice A3 n3 c3))):=by
   show zaY _ _ _ _
   rw [HZ.out]
   exact⟨b3,A3,n3,c3,rfl,hwz,hbz⟩
  clear hk9 hwz hbz hbb hw3 c0 c1 f0 f1 hb0 hb
  go_wp2
  refine bodyPost_ret (v:=.agg #[.bool b3,.slice A3 n3 c3]) (by simp [results,Tryz.results141,go_sem,r0,r1]) rfl ?_
  exact HG.out
theorem ziO (x y:Int)(b b':Bool)(A D:oA9)(n m c d:Nat)(w:World)(hA:zaU w x b A n c)(hD:zaU w y b' D m d)(hn:n<=4294967296)(hm:m<=4294967296):
  Calls Tryz.prog 142 #[.agg #[.bool b,.slice A n c],.agg #[.bool b',.slice D m d]] w (zaY w (x*y)):=by
 obtain⟨hB,x1,x2,hk,x5⟩:=zbm w 92 92 92 #[.bool b,.slice A n c] #[.bool b',.slice D m d] #[.bool false,.slice none 0 0]
 have HHA:=lh9 (λw' (h:Below w.heap.size w w')=>hA.2.below h)
 have HHD:=lh9 (λw' (h:Below w.heap.size w w')=>hD.2.below h)
 have hba:=hA.1
 have hbd:=hD.1
 have hln:=hA.2.len
 have hlm:=hD.2.len
 obtain⟨X,hX⟩:∃q,x.natAbs=q:=⟨_,rfl⟩
 obtain⟨Y,hY⟩:∃q,y.natAbs=q:=⟨_,rfl⟩
 rw [hX] at HHA hln
 rw [hY] at HHD hlm
 have HLX:Hid (X<65536^n):=by show _<_;rw [hln];exact zaS (by decide) X
 have HLY:Hid (Y<65536^m):=by show _<_;rw [hlm];exact zaS (by decide) Y
 clear hA hD hln hlm
 have HAD:=lh9 (λw' (h:Below w.heap.size w w')=>ziN X Y A D n m c d w' (HHA.out w' h) (HHD.out w' h) (by omega) (by omega))
 cases b<;>cases b'
 ·have h1:0<=x:=by simpa using hba
  have h2:0<=y:=by simpa using hbd
  have HXL:Hid (∀q,q=(dg 65536 (X*Y)).length->q<=1099511627776):=λq hq=>by
   rw [hq]
   refine Nat.le_trans (zaJ (by decide) _ (n+m+1) ?_) (by omega)
   exact by rw [show n+m+1=(n+m)+1 from rfl,Nat.pow_succ,Nat.pow_add];exact Nat.lt_of_lt_of_le (Nat.mul_lt_mul'' HLX.out HLY.out) (Nat.le_mul_of_pos_right _ (by decide))
  have HNW:=lh9 (λw' A n c (h:zak w' (X*Y) A n c) hl=>zbp false (X*Y) A n c w' h hl)
  have HZ:Hid (x*y=sgI false (X*Y)):=by show _=_;unfold sgI;simp only [Bool.false_eq_true,if_true,if_false];rw [show x=(X:Int) by omega,show y=(Y:Int) by omega];simp [Int.neg_mul,Int.mul_neg]
  clear hba hbd h1 h2 hX hY
  go_enter Tryz.func142,Tryz.ntmps142
  go_wp2_with fail
  generalize ((w.alloc (.cells #[.bool false,.slice A n c] 92)).alloc (.cells #[.bool false,.slice D m d] 92)).alloc (.cells #[.bool false,.slice none 0 0] 92)=W0 at*
  have g1:W0.cell? ⟨w.heap.size,0,none⟩=some (.bool false):=x1.cell 0
  have e1:W0.cell? ⟨w.heap.size,1,none⟩=some (.slice A n c):=x1.cell 1
  have g2:W0.cell? ⟨w.heap.size+1,0,none⟩=some (.bool false):=x2.cell 0
  have e2:W0.cell? ⟨w.heap.size+1,1,none⟩=some (.slice D m d):=x2.cell 1
  clear x1 x2 x5
  have j0:W0.drew.cell? ⟨w.heap.size,0,none⟩=some (.bool false):=g1
  have j1:W0.drew.cell? ⟨w.heap.size+1,0,none⟩=some (.bool false):=g2
  have j2:W0.drew.cell? ⟨w.heap.size,1,none⟩=some (.slice A n c):=e1
  have j3:W0.drew.cell? ⟨w.heap.size+1,1,none⟩=some (.slice D m d):=e2
  have hb0:=hB.drew
  have hk0:=hk.drew
  go_region_held3 (fun w' => Below w.heap.size w w' ∧ w'.cell? ⟨w.heap.size,0,none⟩ = some (.bool false) ∧ w'.cell? ⟨w.heap.size + 1,0,none⟩ = some (.bool false) ∧ w'.cell? ⟨w.heap.size,1,none⟩ = some (.slice A n c) ∧ w'.cell? ⟨w.heap.size + 1,1,none⟩ = some (.slice D m d))
   (first|(exact⟨hb0,j0,j1,j2,j3⟩)|(go_split_ands;(repeat' apply And.intro);all_goals (first|with_reducible assumption|exact zac (by with_reducible assumption) hb|exact zae hb (by with_reducible assumption)|exact zaf _ (by dsimp only;omega) (zaf _ (by dsimp only;omega) (by with_reducible assumption))|exact zah _ (by dsimp only;omega) (zah _ (by dsimp only;omega) (by with_reducible assumption)))))
   (first
     |(go_at_call 144;(with_reducible refine(HAD.out _ (by first|with_reducible assumption|exact And.left (by with_reducible assumption))).mono ?_);rintro e w2 ⟨A2,n2,c2,rfl,hh2,hb⟩;have hk1:=zad hb hk0;have hl2:=HXL.out n2 hh2.len)
     |(go_at_call 92;(with_reducible refine(HNW.out _ _ _ _ hh2 hl2).mono ?_);rintro e w3 ⟨b3,A3,n3,c3,rfl,hw3,hb⟩;go_split_ands;have hk2:=zad hb hk1;have c0:=hk2.cell 0;have f0:=hk2.frozen 0;have c1:(w3.setCell ⟨w.heap.size+1+1,0,none⟩ (.bool b3)).cell? ⟨w.heap.size+1+1,1,none⟩=some (.slice none 0 0):=(hk2.set_ 0 (.bool b3)).cell 1;have f1:=(hk2.set_ 0 (.bool b3)).frozen 1;have hbb:Below w.heap.size w w3:=zac (by with_reducible assumption) hb))
  have hk9:=(hk2.set_ 0 (.bool b3)).set_ 1 (.slice A3 n3 c3)
  have r0:=hk9.cell 0
  have r1:=hk9.cell 1
  have hwz:=zcD hw3 hk2 b3 A3 n3 c3
  have hbz:=zaf (p:=⟨w.heap.size+1+1,1,none⟩) (.slice A3 n3 c3) (by dsimp only;omega) (zaf (p:=⟨w.heap.size+1+1,0,none⟩) (.bool b3) (by dsimp only;omega) hbb)
  have HG:Hid (zaY w (x*y) (.returned (.agg #[.bool b3,.slice A3 n3 c3])) ((w3.setCell ⟨w.heap.size+1+1,0,none⟩ (.bool b3)).setCell ⟨w.heap.size+1+1,1,none⟩ (.slice A3 n3 c3))):=by
   show zaY _ _ _ _
   rw [HZ.out]
   exact⟨b3,A3,n3,c3,rfl,hwz,hbz⟩
  clear hk9 hwz hbz hbb hw3 c0 c1 f0 f1 hb0 hb
  go_wp2
  refine bodyPost_ret (v:=.agg #[.bool b3,.slice A3 n3 c3]) (by simp [results,Tryz.results142,go_sem,r0,r1]) rfl ?_
  exact HG.out
 ·have h1:0<=x:=by simpa using hba
  have h2:y<0:=by simpa using hbd
  have HXL:Hid (∀q,q=(dg 65536 (X*Y)).length->q<=1099511627776):=λq hq=>by
   rw [hq]
   refine Nat.le_trans (zaJ (by decide) _ (n+m+1) ?_) (by omega)
   exact by rw [show n+m+1=(n+m)+1 from rfl,Nat.pow_succ,Nat.pow_add];exact Nat.lt_of_lt_of_le (Nat.mul_lt_mul'' HLX.out HLY.out) (Nat.le_mul_of_pos_right _ (by decide))
  have HNW:=lh9 (λw' A n c (h:zak w' (X*Y) A n c) hl=>zbp true (X*Y) A n c w' h hl)
  have HZ:Hid (x*y=sgI true (X*Y)):=by show _=_;unfold sgI;simp only [Bool.false_eq_true,if_true,if_false];rw [show x=(X:Int) by omega,show y= -(Y:Int) by omega];simp [Int.neg_mul,Int.mul_neg]
  clear hba hbd h1 h2 hX hY
  go_enter Tryz.func142,Tryz.ntmps142
  go_wp2_with fail
  generalize ((w.alloc (.cells #[.bool false,.slice A n c] 92)).alloc (.cells #[.bool true,.slice D m d] 92)).alloc (.cells #[.bool false,.slice none 0 0] 92)=W0 at*
  have g1:W0.cell? ⟨w.heap.size,0,none⟩=some (.bool false):=x1.cell 0
  have e1:W0.cell? ⟨w.heap.size,1,none⟩=some (.slice A n c):=x1.cell 1
  have g2:W0.cell? ⟨w.heap.size+1,0,none⟩=some (.bool true):=x2.cell 0
  have e2:W0.cell? ⟨w.heap.size+1,1,none⟩=some (.slice D m d):=x2.cell 1
  clear x1 x2 x5
  have j0:W0.drew.cell? ⟨w.heap.size,0,none⟩=some (.bool false):=g1
  have j1:W0.drew.cell? ⟨w.heap.size+1,0,none⟩=some (.bool true):=g2
  have j2:W0.drew.cell? ⟨w.heap.size,1,none⟩=some (.slice A n c):=e1
  have j3:W0.drew.cell? ⟨w.heap.size+1,1,none⟩=some (.slice D m d):=e2
  have hb0:=hB.drew
  have hk0:=hk.drew
  go_region_held3 (fun w' => Below w.heap.size w w' ∧ w'.cell? ⟨w.heap.size,0,none⟩ = some (.bool false) ∧ w'.cell? ⟨w.heap.size + 1,0,none⟩ = some (.bool true) ∧ w'.cell? ⟨w.heap.size,1,none⟩ = some (.slice A n c) ∧ w'.cell? ⟨w.heap.size + 1,1,none⟩ = some (.slice D m d))
   (first|(exact⟨hb0,j0,j1,j2,j3⟩)|(go_split_ands;(repeat' apply And.intro);all_goals (first|with_reducible assumption|exact zac (by with_reducible assumption) hb|exact zae hb (by with_reducible assumption)|exact zaf _ (by dsimp only;omega) (zaf _ (by dsimp only;omega) (by with_reducible assumption))|exact zah _ (by dsimp only;omega) (zah _ (by dsimp only;omega) (by with_reducible assumption)))))
   (first
     |(go_at_call 144;(with_reducible refine(HAD.out _ (by first|with_reducible assumption|exact And.left (by with_reducible assumption))).mono ?_);rintro e w2 ⟨A2,n2,c2,rfl,hh2,hb⟩;have hk1:=zad hb hk0;have hl2:=HXL.out n2 hh2.len)
     |(go_at_call 92;(with_reducible refine(HNW.out _ _ _ _ hh2 hl2).mono ?_);rintro e w3 ⟨b3,A3,n3,c3,rfl,hw3,hb⟩;go_split_ands;have hk2:=zad hb hk1;have c0:=hk2.cell 0;have f0:=hk2.frozen 0;have c1:(w3.setCell ⟨w.heap.size+1+1,0,none⟩ (.bool b3)).cell? ⟨w.heap.size+1+1,1,none⟩=some (.slice none 0 0):=(hk2.set_ 0 (.bool b3)).cell 1;have f1:=(hk2.set_ 0 (.bool b3)).frozen 1;have hbb:Below w.heap.size w w3:=zac (by with_reducible assumption) hb))
  have hk9:=(hk2.set_ 0 (.bool b3)).set_ 1 (.slice A3 n3 c3)
  have r0:=hk9.cell 0
  have r1:=hk9.cell 1
  have hwz:=zcD hw3 hk2 b3 A3 n3 c3
  have hbz:=zaf (p:=⟨w.heap.size+1+1,1,none⟩) (.slice A3 n3 c3) (by dsimp only;omega) (zaf (p:=⟨w.heap.size+1+1,0,none⟩) (.bool b3) (by dsimp only;omega) hbb)
  have HG:Hid (zaY w (x*y) (.returned (.agg #[.bool b3,.slice A3 n3 c3])) ((w3.setCell ⟨w.heap.size+1+1,0,none⟩ (.bool b3)).setCell ⟨w.heap.size+1+1,1,none⟩ (.slice A3 n3 c3))):=by
   show zaY _ _ _ _
   rw [HZ.out]
   exact⟨b3,A3,n3,c3,rfl,hwz,hbz⟩
  clear hk9 hwz hbz hbb hw3 c0 c1 f0 f1 hb0 hb
  go_wp2
  refine bodyPost_ret (v:=.agg #[.bool b3,.slice A3 n3 c3]) (by simp [results,Tryz.results142,go_sem,r0,r1]) rfl ?_
  exact HG.out
 ·have h1:x<0:=by simpa using hba
  have h2:0<=y:=by simpa using hbd
  have HXL:Hid (∀q,q=(dg 65536 (X*Y)).length->q<=1099511627776):=λq hq=>by
   rw [hq]
   refine Nat.le_trans (zaJ (by decide) _ (n+m+1) ?_) (by omega)
   exact by rw [show n+m+1=(n+m)+1 from rfl,Nat.pow_succ,Nat.pow_add];exact Nat.lt_of_lt_of_le (Nat.mul_lt_mul'' HLX.out HLY.out) (Nat.le_mul_of_pos_right _ (by decide))
  have HNW:=lh9 (λw' A n c (h:zak w' (X*Y) A n c) hl=>zbp true (X*Y) A n c w' h hl)
  have HZ:Hid (x*y=sgI true (X*Y)):=by show _=_;unfold sgI;simp only [Bool.false_eq_true,if_true,if_false];rw [show x= -(X:Int) by omega,show y=(Y:Int) by omega];simp [Int.neg_mul,Int.mul_neg]
  clear hba hbd h1 h2 hX hY
  go_enter Tryz.func142,Tryz.ntmps142
  go_wp2_with fail
  generalize ((w.alloc (.cells #[.bool true,.slice A n c] 92)).alloc (.cells #[.bool false,.slice D m d] 92)).alloc (.cells #[.bool false,.slice none 0 0] 92)=W0 at*
  have g1:W0.cell? ⟨w.heap.size,0,none⟩=some (.bool true):=x1.cell 0
  have e1:W0.cell? ⟨w.heap.size,1,none⟩=some (.slice A n c):=x1.cell 1
  have g2:W0.cell? ⟨w.heap.size+1,0,none⟩=some (.bool false):=x2.cell 0
  have e2:W0.cell? ⟨w.heap.size+1,1,none⟩=some (.slice D m d):=x2.cell 1
  clear x1 x2 x5
  have j0:W0.drew.cell? ⟨w.heap.size,0,none⟩=some (.bool true):=g1
  have j1:W0.drew.cell? ⟨w.heap.size+1,0,none⟩=some (.bool false):=g2
  have j2:W0.drew.cell? ⟨w.heap.size,1,none⟩=some (.slice A n c):=e1
  have j3:W0.drew.cell? ⟨w.heap.size+1,1,none⟩=some (.slice D m d):=e2
  have hb0:=hB.drew
  have hk0:=hk.drew
  go_region_held3 (fun w' => Below w.heap.size w w' ∧ w'.cell? ⟨w.heap.size,0,none⟩ = some (.bool true) ∧ w'.cell? ⟨w.heap.size + 1,0,none⟩ = some (.bool false) ∧ w'.cell? ⟨w.heap.size,1,none⟩ = some (.slice A n c) ∧ w'.cell? ⟨w.heap.size + 1,1,none⟩ = some (.slice D m d))
   (first|(exact⟨hb0,j0,j1,j2,j3⟩)|(go_split_ands;(repeat' apply And.intro);all_goals (first|with_reducible assumption|exact zac (by with_reducible assumption) hb|exact zae hb (by with_reducible assumption)|exact zaf _ (by dsimp only;omega) (zaf _ (by dsimp only;omega) (by with_reducible assumption))|exact zah _ (by dsimp only;omega) (zah _ (by dsimp only;omega) (by with_reducible assumption)))))
   (first
     |(go_at_call 144;(with_reducible refine(HAD.out _ (by first|with_reducible assumption|exact And.left (by with_reducible assumption))).mono ?_);rintro e w2 ⟨A2,n2,c2,rfl,hh2,hb⟩;have hk1:=zad hb hk0;have hl2:=HXL.out n2 hh2.len)
     |(go_at_call 92;(with_reducible refine(HNW.out _ _ _ _ hh2 hl2).mono ?_);rintro e w3 ⟨b3,A3,n3,c3,rfl,hw3,hb⟩;go_split_ands;have hk2:=zad hb hk1;have c0:=hk2.cell 0;have f0:=hk2.frozen 0;have c1:(w3.setCell ⟨w.heap.size+1+1,0,none⟩ (.bool b3)).cell? ⟨w.heap.size+1+1,1,none⟩=some (.slice none 0 0):=(hk2.set_ 0 (.bool b3)).cell 1;have f1:=(hk2.set_ 0 (.bool b3)).frozen 1;have hbb:Below w.heap.size w w3:=zac (by with_reducible assumption) hb))
  have hk9:=(hk2.set_ 0 (.bool b3)).set_ 1 (.slice A3 n3 c3)
  have r0:=hk9.cell 0
  have r1:=hk9.cell 1
  have hwz:=zcD hw3 hk2 b3 A3 n3 c3
  have hbz:=zaf (p:=⟨w.heap.size+1+1,1,none⟩) (.slice A3 n3 c3) (by dsimp only;omega) (zaf (p:=⟨w.heap.size+1+1,0,none⟩) (.bool b3) (by dsimp only;omega) hbb)
  have HG:Hid (zaY w (x*y) (.returned (.agg #[.bool b3,.slice A3 n3 c3])) ((w3.setCell ⟨w.heap.size+1+1,0,none⟩ (.bool b3)).setCell ⟨w.heap.size+1+1,1,none⟩ (.slice A3 n3 c3))):=by
   show zaY _ _ _ _
   rw [HZ.out]
   exact⟨b3,A3,n3,c3,rfl,hwz,hbz⟩
  clear hk9 hwz hbz hbb hw3 c0 c1 f0 f1 hb0 hb
  go_wp2
  refine bodyPost_ret (v:=.agg #[.bool b3,.slice A3 n3 c3]) (by simp [results,Tryz.results142,go_sem,r0,r1]) rfl ?_
  exact HG.out
 ·have h1:x<0:=by simpa using hba
  have h2:y<0:=by simpa using hbd
  have HXL:Hid (∀q,q=(dg 65536 (X*Y)).length->q<=1099511627776):=λq hq=>by
   rw [hq]
   refine Nat.le_trans (zaJ (by decide) _ (n+m+1) ?_) (by omega)
   exact by rw [show n+m+1=(n+m)+1 from rfl,Nat.pow_succ,Nat.pow_add];exact Nat.lt_of_lt_of_le (Nat.mul_lt_mul'' HLX.out HLY.out) (Nat.le_mul_of_pos_right _ (by decide))
  have HNW:=lh9 (λw' A n c (h:zak w' (X*Y) A n c) hl=>zbp false (X*Y) A n c w' h hl)
  have HZ:Hid (x*y=sgI false (X*Y)):=by show _=_;unfold sgI;simp only [Bool.false_eq_true,if_true,if_false];rw [show x= -(X:Int) by omega,show y= -(Y:Int) by omega];simp [Int.neg_mul,Int.mul_neg]
  clear hba hbd h1 h2 hX hY
  go_enter Tryz.func142,Tryz.ntmps142
  go_wp2_with fail
  generalize ((w.alloc (.cells #[.bool true,.slice A n c] 92)).alloc (.cells #[.bool true,.slice D m d] 92)).alloc (.cells #[.bool false,.slice none 0 0] 92)=W0 at*
  have g1:W0.cell? ⟨w.heap.size,0,none⟩=some (.bool true):=x1.cell 0
  have e1:W0.cell? ⟨w.heap.size,1,none⟩=some (.slice A n c):=x1.cell 1
  have g2:W0.cell? ⟨w.heap.size+1,0,none⟩=some (.bool true):=x2.cell 0
  have e2:W0.cell? ⟨w.heap.size+1,1,none⟩=some (.slice D m d):=x2.cell 1
  clear x1 x2 x5
  have j0:W0.drew.cell? ⟨w.heap.size,0,none⟩=some (.bool true):=g1
  have j1:W0.drew.cell? ⟨w.heap.size+1,0,none⟩=some (.bool true):=g2
  have j2:W0.drew.cell? ⟨w.heap.size,1,none⟩=some (.slice A n c):=e1
  have j3:W0.drew.cell? ⟨w.heap.size+1,1,none⟩=some (.slice D m d):=e2
  have hb0:=hB.drew
  have hk0:=hk.drew
  go_region_held3 (fun w' => Below w.heap.size w w' ∧ w'.cell? ⟨w.heap.size,0,none⟩ = some (.bool true) ∧ w'.cell? ⟨w.heap.size + 1,0,none⟩ = some (.bool true) ∧ w'.cell? ⟨w.heap.size,1,none⟩ = some (.slice A n c) ∧ w'.cell? ⟨w.heap.size + 1,1,none⟩ = some (.slice D m d))
   (first|(exact⟨hb0,j0,j1,j2,j3⟩)|(go_split_ands;(repeat' apply And.intro);all_goals (first|with_reducible assumption|exact zac (by with_reducible assumption) hb|exact zae hb (by with_reducible assumption)|exact zaf _ (by dsimp only;omega) (zaf _ (by dsimp only;omega) (by with_reducible assumption))|exact zah _ (by dsimp only;omega) (zah _ (by dsimp only;omega) (by with_reducible assumption)))))
   (first
     |(go_at_call 144;(with_reducible refine(HAD.out _ (by first|with_reducible assumption|exact And.left (by with_reducible assumption))).mono ?_);rintro e w2 ⟨A2,n2,c2,rfl,hh2,hb⟩;have hk1:=zad hb hk0;have hl2:=HXL.out n2 hh2.len)
     |(go_at_call 92;(with_reducible refine(HNW.out _ _ _ _ hh2 hl2).mono ?_);rintro e w3 ⟨b3,A3,n3,c3,rfl,hw3,hb⟩;go_split_ands;have hk2:=zad hb hk1;have c0:=hk2.cell 0;have f0:=hk2.frozen 0;have c1:(w3.setCell ⟨w.heap.size+1+1,0,none⟩ (.bool b3)).cell? ⟨w.heap.size+1+1,1,none⟩=some (.slice none 0 0):=(hk2.set_ 0 (.bool b3)).cell 1;have f1:=(hk2.set_ 0 (.bool b3)).frozen 1;have hbb:Below w.heap.size w w3:=zac (by with_reducible assumption) hb))
  have hk9:=(hk2.set_ 0 (.bool b3)).set_ 1 (.slice A3 n3 c3)
  have r0:=hk9.cell 0
  have r1:=hk9.cell 1
  have hwz:=zcD hw3 hk2 b3 A3 n3 c3
  have hbz:=zaf (p:=⟨w.heap.size+1+1,1,none⟩) (.slice A3 n3 c3) (by dsimp only;omega) (zaf (p:=⟨w.heap.size+1+1,0,none⟩) (.bool b3) (by dsimp only;omega) hbb)
  have HG:Hid (zaY w (x*y) (.returned (.agg #[.bool b3,.slice A3 n3 c3])) ((w3.setCell ⟨w.heap.size+1+1,0,none⟩ (.bool b3)).setCell ⟨w.heap.size+1+1,1,none⟩ (.slice A3 n3 c3))):=by
   show zaY _ _ _ _
   rw [HZ.out]
   exact⟨b3,A3,n3,c3,rfl,hwz,hbz⟩
  clear hk9 hwz hbz hbb hw3 c0 c1 f0 f1 hb0 hb
  go_wp2
  refine bodyPost_ret (v:=.agg #[.bool b3,.slice A3 n3 c3]) (by simp [results,Tryz.results142,go_sem,r0,r1]) rfl ?_
  exact HG.out
