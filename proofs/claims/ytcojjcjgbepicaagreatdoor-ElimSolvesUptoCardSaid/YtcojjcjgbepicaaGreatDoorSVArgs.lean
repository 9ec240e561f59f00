/- What this claim leans on. -/
import Derived.Test.YtcojjcjgbepicaaGreatDoorSBunI
import Derived.Deep.Slices
namespace Go.Proofs.YtcojjcjgbepicaaGreatDoor
open Go Go.RowKit
open Go.ChangeShapes Go.WideShapes Go.ChangeAt Go.Deep
set_option maxHeartbeats 16000000
set_option linter.unusedVariables false
def zcc (z:Int):Prop:=-9223372036854775808<=z/\z<=9223372036854775807
theorem zmU {H:Type}{enc:TypeId×Value->H}{P:Program}{W:World}{fuel:Nat}{t:TypeId}{f0 f1:Field}{c0 c1:Value}{x:DataW H×List MemPlace}
  (hs:P.underlying t=some (.struct #[f0,f1])) (hf:(f0.offset,P.cellsOf f0.type,f1.offset,P.cellsOf f1.type)=(0,1,1,1)) (h0:P.underlying f0.type=some (.int .i64)) (h1:P.underlying f1.type=some (.int .i64))
  (h:DataW.trod enc P W 0 (λ_=>true) true fuel t [c0,c1]=some x):∃p q:Int,c0=.int .i64 p/\c1=.int .i64 q/\zcc p/\zcc q:=by
 simp only [Prod.mk.injEq] at hf
 obtain⟨y0,y1,n,rfl,_,k0,k1⟩:=trod_struct2 hs h
 rw [hf.1,hf.2.1] at k0
 rw [hf.2.2.1,hf.2.2.2] at k1
 simp only [List.drop_zero,List.take_succ_cons,List.take_zero,List.drop_succ_cons] at k0 k1
 obtain⟨p,hp,_,wp⟩:=DataW.trod_int h0 k0
 obtain⟨q,hq,_,wq⟩:=DataW.trod_int h1 k1
 simp only [List.cons.injEq,and_true] at hp hq
 have bp:=bounds_i64 wp
 have bq:=bounds_i64 wq
 exact⟨p,q,hp,hq,⟨by omega,by omega⟩,⟨by omega,by omega⟩⟩
structure zaT (W:World)(A:oA9)(n c:Nat)(L:List (Int×Int)):Prop where
 len:L.length=n
 fits:n<=c
 small:c<=1048576
 ints:∀q ∈ L,zcc q.1/\zcc q.2
 row:∀r q,L[r]?=some q->∃ad,A=some ad/\ad.block<W.heap.size/\W.cell? (ad.add (r*2))=some (.int .i64 q.1)/\W.cell? (ad.add (r*2+1))=some (.int .i64 q.2)
theorem zaT.below {W W':World}{A:oA9}{n c:Nat}{L:List (Int×Int)}(h:zaT W A n c L)(hb:Below W.heap.size W W'):zaT W' A n c L:=
 ⟨h.len,h.fits,h.small,h.ints,λr q hr=>by
  obtain⟨ad,e,h1,h2,h3⟩:=h.row r q hr
  exact⟨ad,e,Nat.lt_of_lt_of_le h1 hb.size,(hb.cell (by rw [zao];exact h1)).trans h2,(hb.cell (by rw [zao];exact h1)).trans h3⟩⟩
theorem arg_fracs {H:Type}{enc:TypeId×Value->H}{P:Program}{W:World}{fuel:Nat}{t0 t:TypeId}{f0 f1:Field}{A:oA9}{n c:Nat}{x:DataW H×List MemPlace}
  (ht:P.underlying t0=some (.slice t)) (hs:P.underlying t=some (.struct #[f0,f1])) (hf:(f0.offset,P.cellsOf f0.type,f1.offset,P.cellsOf f1.type)=(0,1,1,1)) (hC:P.cellsOf t=2) (h0:P.underlying f0.type=some (.int .i64)) (h1:P.underlying f1.type=some (.int .i64))
  (h:DataW.trod enc P W 0 (λ_=>true) true fuel t0 (Value.slice A n c).cells.toList=some x) (hb:Rows.uptoBulk x.1<=1048576):∃L,zaT W A n c L:=by
 rcases open_slice ht h with⟨hcs,_⟩|⟨a,len,cap,m,k,D,Pl,hcs,_,hl,hm,hmm,hx,hi⟩
 ·simp [Value.cells] at hcs
  obtain⟨rfl,rfl,rfl⟩:=hcs
  exact⟨[],rfl,Nat.le_refl _,by omega,λq hq=>(by cases hq),λr q hr=>by simp at hr⟩
 ·simp [Value.cells] at hcs
  obtain⟨rfl,rfl,rfl⟩:=hcs
  rw [if_pos rfl] at hmm
  rw [hmm] at hx hi
  subst hx
  have hss:=UA.slice_le (H:=H) ((List.range n).map D) ((List.range (c - n)).map λj=>D (n+j))
  have hb':Rows.uptoBulk (DataW.slice (H:=H) ((List.range n).map D) ((List.range (c - n)).map λj=>D (n+j)))<=1048576:=hb
  have hcc:c<=1048576:=by
   simp only [List.length_map,List.length_range] at hss
   omega
  have each:∀r,r<n->∃q:Int×Int,W.cell? (a.add (r*2))=some (.int .i64 q.1)/\W.cell? (a.add (r*2+1))=some (.int .i64 q.2)/\zcc q.1/\zcc q.2:=λr hr=>by
   obtain⟨cs,hcl,htr⟩:=hi r (by omega)
   rw [hC] at hcl
   obtain⟨_,hlen,hat⟩:=World.cells?_some hcl
   obtain⟨c0,c1,rfl⟩:∃c0 c1,cs=[c0,c1]:=by
    match cs,hlen with
    |[c0,c1],_=>exact⟨c0,c1,rfl⟩
   obtain⟨p,q,rfl,rfl,hp,hq⟩:=zmU (x:=(D r,Pl r)) hs hf h0 h1 htr
   have h0:=hat 0 (by decide)
   have h1:=hat 1 (by decide)
   rw [Go.Deep.add_add] at h0 h1
   exact⟨(p,q),h0,h1,hp,hq⟩
  obtain ⟨f,hf2⟩ : ∃ f : Nat → Int × Int,∀ r,r < n → W.cell? (a.add (r * 2)) = some (.int .i64 (f r).1) ∧ W.cell? (a.add (r * 2 + 1)) = some (.int .i64 (f r).2) ∧ zcc (f r).1 ∧ zcc (f r).2 :=
   ⟨λr=>if hr:r<n then(each r hr).choose else(0,0),λr hr=>by simp only [dif_pos hr];exact(each r hr).choose_spec⟩
  refine⟨(List.range n).map f,by simp,hl,hcc,λq hq=>?_,λr q hr=>?_⟩
  ·obtain⟨r,hr,rfl⟩:=List.mem_map.1 hq
   exact(hf2 r (List.mem_range.1 hr)).2.2
  ·have hlt:r<n:=by
    have:=(List.getElem?_eq_some_iff.1 hr).1
    simpa using this
   obtain rfl:f r=q:=by
    rw [List.getElem?_map,List.getElem?_range hlt] at hr
    simpa using hr
   obtain⟨c0,c1,_⟩:=hf2 r hlt
   refine⟨a,rfl,?_,c0,c1⟩
   have:=World.block_lt_of_cell? W _ c0
   rw [zao] at this
   exact this
theorem zik {H:Type}{enc:TypeId×Value->H}{P:Program}{W:World}{fuel:Nat}{t0 t:TypeId}{f0 f1:Field}{v:Value}{x:DataW H×List MemPlace}
  (ht:P.underlying t0=some (.slice t)) (hs:P.underlying t=some (.struct #[f0,f1])) (hf:(f0.offset,P.cellsOf f0.type,f1.offset,P.cellsOf f1.type)=(0,1,1,1)) (hC:P.cellsOf t=2) (h0:P.underlying f0.type=some (.int .i64)) (h1:P.underlying f1.type=some (.int .i64))
  (h:DataW.trod enc P W 0 (λ_=>true) true fuel t0 [v]=some x) (hb:Rows.uptoBulk x.1<=1048576):∃A n c L,v=.slice A n c/\zaT W A n c L:=by
 have go:∀A n c,[v]=[Value.slice A n c]->∃A n c L,v=.slice A n c/\zaT W A n c L:=λA n c e=>by
  simp only [List.cons.injEq,and_true] at e
  subst e
  obtain⟨L,hL⟩:=arg_fracs ht hs hf hC h0 h1 (A:=A) (n:=n) (c:=c) (by simpa [Value.cells] using h) hb
  exact⟨A,n,c,L,rfl,hL⟩
 rcases open_slice ht h with⟨hcs,_⟩|⟨a,len,cap,m,k,D,Pl,hcs,_⟩
 ·exact go _ _ _ hcs
 ·exact go _ _ _ hcs
structure zbc (W:World)(A:oA9)(n c:Nat)(R:Nat->oA9×Nat×Nat×List (Int×Int)):Prop where
 fits:n<=c
 small:c<=1048576
 row:∀r,r<n->∃ad,A=some ad/\ad.block<W.heap.size/\W.cell? (ad.add r)=some (.slice (R r).1 (R r).2.1 (R r).2.2.1)/\zaT W (R r).1 (R r).2.1 (R r).2.2.1 (R r).2.2.2
theorem zjp {H:Type}{enc:TypeId×Value->H}{P:Program}{W:World}{fuel:Nat}{t9 t0 t:TypeId}{f0 f1:Field}{A:oA9}{n c:Nat}{x:DataW H×List MemPlace}
  (ht9:P.underlying t9=some (.slice t0)) (hC9:P.cellsOf t0=1) (ht:P.underlying t0=some (.slice t)) (hs:P.underlying t=some (.struct #[f0,f1])) (hf:(f0.offset,P.cellsOf f0.type,f1.offset,P.cellsOf f1.type)=(0,1,1,1)) (hC:P.cellsOf t=2) (h0:P.underlying f0.type=some (.int .i64)) (h1:P.underlying f1.type=some (.int .i64))
  (h:DataW.trod enc P W 0 (λ_=>true) true fuel t9 (Value.slice A n c).cells.toList=some x) (hb:Rows.uptoBulk x.1<=1048576):∃R,zbc W A n c R:=by
 rcases open_slice ht9 h with⟨hcs,_⟩|⟨a,len,cap,m,k,D,Pl,hcs,_,hl,hm,hmm,hx,hi⟩
 ·simp [Value.cells] at hcs
  obtain⟨rfl,rfl,rfl⟩:=hcs
  exact⟨λ_=>(none,0,0,[]),Nat.le_refl _,by omega,λr hr=>by omega⟩
 ·simp [Value.cells] at hcs
  obtain⟨rfl,rfl,rfl⟩:=hcs
  rw [if_pos rfl] at hmm
  rw [hmm] at hx hi
  subst hx
  have hss:=UA.slice_le (H:=H) ((List.range n).map D) ((List.range (c - n)).map λj=>D (n+j))
  have hb':Rows.uptoBulk (DataW.slice (H:=H) ((List.range n).map D) ((List.range (c - n)).map λj=>D (n+j)))<=1048576:=hb
  have hcc:c<=1048576:=by
   simp only [List.length_map,List.length_range] at hss
   omega
  have each:∀r,r<n->∃q:oA9×Nat×Nat×List (Int×Int),W.cell? (a.add r)=some (.slice q.1 q.2.1 q.2.2.1)/\zaT W q.1 q.2.1 q.2.2.1 q.2.2.2:=λr hr=>by
   obtain⟨cs,hcl,htr⟩:=hi r (by omega)
   rw [hC9] at hcl
   obtain⟨_,hlen,hat⟩:=World.cells?_some hcl
   obtain⟨c0,rfl⟩:∃c0,cs=[c0]:=by
    match cs,hlen with
    |[c0],_=>exact⟨c0,rfl⟩
   have hD:Rows.uptoBulk (D r)<=1048576:=by
    have hm1:D r ∈(List.range n).map D:=List.mem_map.2 ⟨r,List.mem_range.2 hr,rfl⟩
    have hm2:=UA.mem_le hm1
    simp only [Rows.uptoBulk] at hb'
    omega
   obtain⟨A',n',c',L,rfl,hL⟩:=zik (x:=(D r,Pl r)) ht hs hf hC h0 h1 htr hD
   have h0:=hat 0 (by decide)
   rw [Go.Deep.add_add,Nat.mul_one,Nat.add_zero] at h0
   exact⟨(A',n',c',L),h0,hL⟩
  refine⟨λr=>if hr:r<n then(each r hr).choose else(none,0,0,[]),hl,hcc,λr hr=>⟨a,rfl,?_,?_⟩⟩
  ·have:=World.block_lt_of_cell? W _ (each r hr).choose_spec.1
   rw [zao] at this
   exact this
  ·simp only [dif_pos hr]
   exact(each r hr).choose_spec
theorem zaT.take {W:World}{A:oA9}{n c N:Nat}{L:List (Int×Int)}(h:zaT W A n c L)(hN:N<=n):zaT W A N c (L.take N):=by
 have hl:=h.len
 have hf:=h.fits
 refine⟨by rw [List.length_take];omega,by omega,h.small,λq hq=>h.ints q (List.mem_of_mem_take hq),λr q hr=>?_⟩
 rw [List.getElem?_take] at hr
 split at hr
 ·exact h.row r q hr
 ·cases hr
open Go Go.RowKit
set_option maxHeartbeats 16000000
set_option maxRecDepth 100000
set_option linter.unusedVariables false
theorem zgK (x y:Nat)(A D:oA9)(n m c d:Nat)(w:World)(hA:zad w x A n c)(hD:zad w y D m d)(hn:n<=274877906944)(hm:m<=274877906944):
  Calls Tryz.prog 171 #[.agg #[.slice A n c],.agg #[.slice D m d]] w (zeC w (x / y) (decide (y≠0))):=by
 by_cases hy:y=0
 ·have e:x / y=0:=by rw [hy,Nat.div_zero]
  have e2:decide (y≠0)=false:=by simp [hy]
  rw [e,e2]
  exact zfs 0 0 false A D n m c d w (λw' hb=>zft x y A D n m c d w' (hA.below hb) (hD.below hb) hy)
 ·have e2:decide (y≠0)=true:=by simp [hy]
  rw [e2]
  exact zfs (x / y) (x%y) true A D n m c d w (λw' hb=>zeb x y A D n m c d w' (hA.below hb) (hD.below hb) (by omega) (by omega) hy)
open Go Go.RowKit
set_option maxHeartbeats 16000000
set_option maxRecDepth 100000
set_option linter.unusedVariables false
theorem zmW (x y:Nat)(A D:oA9)(n m c d:Nat)(w:World)(hA:zad w x A n c)(hD:zad w y D m d)(hn:n<=1073741824)(hm:m<=1073741824)(hT:zaj w):
  Calls Tryz.prog 122 #[.agg #[.slice A n c],.agg #[.slice D m d]] w (zkp w (x / Nat.gcd x y) (y / Nat.gcd x y)):=by
 have HO:=lh9 (λw' (hb:Below w.heap.size w w')=>gcd_of x y A D n m c d w' (hA.below hb) (hD.below hb) hn hm (hT.on hb))
 obtain⟨g,hg⟩:∃g,Nat.gcd x y=g:=⟨_,rfl⟩
 have lg:(dg 18446744073709551616 g).length<=2147483648:=by
  rw [<-hg]
  rcases Nat.eq_zero_or_pos x with e|e
  ·rw [e,Nat.gcd_zero_left,hD.len];omega
  ·exact Nat.le_trans (zbD (by decide) (Nat.gcd_le_left y e)) (by rw [hA.len];omega)
 rw [hg] at HO⊢
 have HDA:=lh9 (λw' (hb:Below w.heap.size w w') A1 n1 c1 (h1:zad w' g A1 n1 c1)=>zgK x g A A1 n n1 c c1 w' (hA.below hb) h1 (by omega) (by rw [<-h1.len];omega))
 have HDB:=lh9 (λw' (hb:Below w.heap.size w w') A1 n1 c1 (h1:zad w' g A1 n1 c1)=>zgK y g D A1 m n1 d c1 w' (hD.below hb) h1 (by omega) (by rw [<-h1.len];omega))
 obtain⟨X,hX⟩:∃g',x / g=g':=⟨_,rfl⟩
 obtain⟨Y,hY⟩:∃g',y / g=g':=⟨_,rfl⟩
 obtain⟨bb,hbb⟩:∃g':Bool,decide (g≠0)=g':=⟨_,rfl⟩
 rw [hX,hbb] at HDA
 rw [hY,hbb] at HDB
 rw [hX,hY]
 clear hA hD hT hg lg hX hY hbb
 go_enter Tryz.func122,Tryz.ntmps122
 go_wp2_with fail
 obtain⟨b1,b2,b3,b4,b5⟩:=zbA w 49 49 49 #[.slice A n c] #[.slice D m d] #[.slice none 0 0]
 obtain⟨W3,hW3⟩:∃W,((w.alloc (.cells #[.slice A n c] 49)).alloc (.cells #[.slice D m d] 49)).alloc (.cells #[.slice none 0 0] 49)=W:=⟨_,rfl⟩
 rw [hW3] at b1 b2 b3 b4 b5⊢
 have hs3:W3.heap.size=w.heap.size+1+1+1:=by rw [<-hW3];simp
 have kA:=b2.one.alloc (.cells #[.slice none 0 0] 49)
 have kD:=b3.one.alloc (.cells #[.slice none 0 0] 49)
 have kx:=b4.one.alloc (.cells #[.slice none 0 0] 49)
 have ky:=zbQ.new W3 49 (.slice none 0 0)
 rw [hs3] at ky
 have hB:=b1.alloc b1.size (.cells #[.slice none 0 0] 49)
 clear b1 b2 b3 b4 b5 hW3 hs3
 generalize W3.alloc (.cells #[.slice none 0 0] 49)=W4 at*
 obtain⟨p,hp⟩:∃p,w.heap.size=p:=⟨_,rfl⟩
 have hpw:w.heap.size<=p:=by omega
 refine(HO.out _ hB).mono ?_
 rw [hp] at kA kD kx ky⊢
 clear hp
 rintro e w1 ⟨A1,n1,c1,rfl,hg1,hb⟩
 obtain⟨d1,d2,d3⟩:=zaw w1 49 #[.slice A1 n1 c1]
 have hbb:=zaa hb d1
 have kA:=kA.keep hbb
 have kD:=kD.keep hbb
 have kx:=kx.keep hbb
 have ky:=ky.keep hbb
 have hB:=zaa hB hbb
 have hg1:=hg1.below d1
 have kg:=d2.one
 clear d1 d2 d3 hb hbb
 have e1:=kA.cell
 have e2:=kg.cell
 go_wp2_with fail
 generalize hW5:w1.alloc (.cells #[.slice A1 n1 c1] 49)=W5 at*
 generalize w1.heap.size=z1 at*
 clear hW5
 refine(HDA.out _ hB A1 n1 c1 hg1).mono ?_
 clear e1 e2
 rintro e w2 ⟨A2,n2,c2,rfl,hx2,hb⟩
 have hz2:=(ky.keep hb).lt
 obtain⟨d1,d2,d3⟩:=zaw w2 49 #[.slice A2 n2 c2]
 have hbb:=zaa hb d1
 have kD:=kD.keep hbb
 have kx:=kx.keep hbb
 have ky:=ky.keep hbb
 have kg:=kg.keep hbb
 have hB:=zaa hB hbb
 have hg1:=hg1.below hbb
 have hx2:=hx2.below d1
 have k7:=d2.one
 clear d1 d2 d3 hb hbb kA
 have e1:=kD.cell
 have e2:=kg.cell
 go_wp2_with fail
 generalize hW6:w2.alloc (.cells #[.slice A2 n2 c2] 49)=W6 at*
 generalize w2.heap.size=z2 at*
 clear hW6
 refine(HDB.out _ hB A1 n1 c1 hg1).mono ?_
 clear e1 e2
 rintro e w3 ⟨A3,n3,c3,rfl,hy3,hb⟩
 have hz3:=(ky.keep hb).lt
 obtain⟨d1,d2,d3⟩:=zaw w3 49 #[.slice A3 n3 c3]
 have hbb:=zaa hb d1
 have kx:=kx.keep hbb
 have ky:=ky.keep hbb
 have k7:=k7.keep hbb
 have hB:=zaa hB hbb
 have hx2:=hx2.below hbb
 have hy3:=hy3.below d1
 have k9:=d2.one
 clear d1 d2 d3 hb hbb kD kg hg1
 go_wp2_with fail
 generalize hW7:w3.alloc (.cells #[.slice A3 n3 c3] 49)=W7 at*
 generalize w3.heap.size=z3 at*
 clear hW7
 have q7:W7.cell? ⟨z2,0,none⟩=some (.slice A2 n2 c2):=k7.cell
 have q9:W7.cell? ⟨z3,0,none⟩=some (.slice A3 n3 c3):=k9.cell
 have qx:W7.cell? ⟨p+1+1,0,none⟩=some (.slice none 0 0):=kx.cell
 have qy:W7.cell? ⟨p+1+1+1,0,none⟩=some (.slice none 0 0):=ky.cell
 have fx:W7.frozen? ⟨p+1+1,0,none⟩=false:=kx.frozen
 have fy:W7.frozen? ⟨p+1+1+1,0,none⟩=false:=ky.frozen
 have q9':=zag (q:=⟨p+1+1,0,none⟩) (.slice A2 n2 c2) (by show z3≠p+1+1;omega) q9
 have kx1:=kx.set_ (.slice A2 n2 c2)
 have ky1:=ky.far (p:=⟨p+1+1,0,none⟩) (by show p+1+1+1≠p+1+1;omega) (.slice A2 n2 c2)
 have qy':=ky1.cell
 have fy':=ky1.frozen
 have hx4:=zan hx2 kx (.slice A2 n2 c2)
 have hy4:=zan hy3 kx (.slice A2 n2 c2)
 have rx:=(kx1.far (p:=⟨p+1+1+1,0,none⟩) (by show p+1+1≠p+1+1+1;omega) (.slice A3 n3 c3)).cell
 have ry:=(ky1.set_ (.slice A3 n3 c3)).cell
 have HE : Hid (zkp w X Y (.returned (.tuple #[.agg #[.slice A2 n2 c2],.agg #[.slice A3 n3 c3]])) ((W7.setCell ⟨p + 1 + 1,0,none⟩ (.slice A2 n2 c2)).setCell ⟨p + 1 + 1 + 1,0,none⟩ (.slice A3 n3 c3)).drew) :=
  ⟨_,_,_,_,_,_,rfl,zan hx4 ky1 _,zan hy4 ky1 _,(hB.setCell (p:=⟨p+1+1,0,none⟩) (by show w.heap.size<=p+1+1;omega) _).setCell (p:=⟨p+1+1+1,0,none⟩) (by show w.heap.size<=p+1+1+1;omega) _|>.drew⟩
 clear k7 k9 kx ky hB hx2 hy3 kx1 ky1 hx4 hy4
 go_region
 all_goals
  go_wp2
  refine bodyPost_ret (v:=.tuple #[.agg #[.slice A2 n2 c2],.agg #[.slice A3 n3 c3]]) (by simp [results,Tryz.results122,go_sem,rx,ry]) rfl ?_
  exact HE.out
open Go Go.RowKit
set_option maxHeartbeats 16000000
set_option maxRecDepth 100000
set_option linter.unusedVariables false
set_option linter.unusedSimpArgs false
theorem Sz.of_words {w:World}{x K n c:Nat}{A:oA9}(h:zad w x A n c)(hn:n<=K):Sz K x:=by
 have h1:=zbv (b:=18446744073709551616) (by decide) x
 rw [h.len] at h1
 exact Nat.lt_of_lt_of_le h1 (Nat.pow_le_pow_right (by decide) hn)
open Go Go.RowKit
set_option maxHeartbeats 16000000
set_option maxRecDepth 100000
set_option linter.unusedVariables false
open Go Go.RowKit
set_option maxHeartbeats 16000000
set_option linter.unusedVariables false
theorem zbR:GcdC where
 of x y A D n m c d w hA hD hn hm hT:=gcd_of x y A D n m c d w hA hD hn hm hT
 reduce x y A D n m c d w hA hD hn hm hT:=zmW x y A D n m c d w hA hD hn hm hT
