/- What this claim leans on. -/
import Derived.Test.YtcojjcjgbepicaaGreatDoorKJ8Add
import Derived.Test.YtcojjcjgbepicaaGreatDoorKJ8Mul
import Derived.Test.YtcojjcjgbepicaaGreatDoorKJ8Ord
namespace Go.Proofs.YtcojjcjgbepicaaGreatDoor
open Go Go.RowKit
open Go.ChangeShapes Go.WideShapes Go.ChangeAt Go.Deep
set_option maxHeartbeats 16000000
set_option linter.unusedVariables false
def zcA (z:Int):Prop:=-9223372036854775808<=z/\z<=9223372036854775807
theorem zmK {H:Type}{enc:TypeId×Value->H}{P:Program}{W:World}{fuel:Nat}{t:TypeId}{f0 f1:Field}{c0 c1:Value}{x:DataW H×List MemPlace}
  (hs:P.underlying t=some (.struct #[f0,f1])) (hf:(f0.offset,P.cellsOf f0.type,f1.offset,P.cellsOf f1.type)=(0,1,1,1)) (h0:P.underlying f0.type=some (.int .i64)) (h1:P.underlying f1.type=some (.int .i64))
  (h:DataW.trod enc P W 0 (λ_=>true) true fuel t [c0,c1]=some x):∃p q:Int,c0=.int .i64 p/\c1=.int .i64 q/\zcA p/\zcA q:=by
 simp only [Prod.mk.injEq] at hf
 obtain⟨y0,y1,n,rfl,_,k0,k1⟩:=trod_struct2 hs h
 rw [hf.1,hf.2.1] at k0
 rw [hf.2.2.1,hf.2.2.2] at k1
 simp only [List.drop_zero,List.take_succ_cons,List.take_zero,List.drop_succ_cons] at k0 k1
 obtain⟨p,hp,_,wp⟩:=DataW.trod_int h0 k0
 obtain⟨q,hq,_,wq⟩:=DataW.trod_int h1 k1
 simp only [List.cons.injEq,and_true] at hp hq
 have bp:=bounds_i64 wp
 have bq:=bounds_i64 wq
 exact⟨p,q,hp,hq,⟨by omega,by omega⟩,⟨by omega,by omega⟩⟩
structure zbc (W:World)(A:oA9)(n c:Nat)(L:List (Int×Int)):Prop where
 len:L.length=n
 fits:n<=c
 small:c<=1048576
 ints:∀q ∈ L,zcA q.1/\zcA q.2
 row:∀r q,L[r]?=some q->∃ad,A=some ad/\ad.block<W.heap.size/\W.cell? (ad.add (r*2))=some (.int .i64 q.1)/\W.cell? (ad.add (r*2+1))=some (.int .i64 q.2)
theorem zbc.below {W W':World}{A:oA9}{n c:Nat}{L:List (Int×Int)}(h:zbc W A n c L)(hb:Below W.heap.size W W'):zbc W' A n c L:=
 ⟨h.len,h.fits,h.small,h.ints,λr q hr=>by
  obtain⟨ad,e,h1,h2,h3⟩:=h.row r q hr
  exact⟨ad,e,Nat.lt_of_lt_of_le h1 hb.size,(hb.cell (by rw [zao];exact h1)).trans h2,(hb.cell (by rw [zao];exact h1)).trans h3⟩⟩
theorem zot {H:Type}{enc:TypeId×Value->H}{P:Program}{W:World}{fuel:Nat}{t0 t:TypeId}{f0 f1:Field}{A:oA9}{n c:Nat}{x:DataW H×List MemPlace}
  (ht:P.underlying t0=some (.slice t)) (hs:P.underlying t=some (.struct #[f0,f1])) (hf:(f0.offset,P.cellsOf f0.type,f1.offset,P.cellsOf f1.type)=(0,1,1,1)) (hC:P.cellsOf t=2) (h0:P.underlying f0.type=some (.int .i64)) (h1:P.underlying f1.type=some (.int .i64))
  (h:DataW.trod enc P W 0 (λ_=>true) true fuel t0 (Value.slice A n c).cells.toList=some x) (hb:Rows.uptoBulk x.1<=1048576):∃L,zbc W A n c L:=by
 rcases open_slice ht h with⟨hcs,_⟩|⟨a,len,cap,m,k,D,Pl,hcs,_,hl,hm,hmm,hx,hi⟩
 ·simp [Value.cells] at hcs
  obtain⟨rfl,rfl,rfl⟩:=hcs
  exact⟨[],rfl,Nat.le_refl _,by omega,λq hq=>(by cases hq),λr q hr=>by simp at hr⟩
 ·simp [Value.cells] at hcs
  obtain⟨rfl,rfl,rfl⟩:=hcs
  rw [if_pos rfl] at hmm
  rw [hmm] at hx hi
  subst hx
  have hss:=UA.slice_le (H:=H) ((List.range n).map D) ((List.range (c - n)).map λj=>D (n+j))
  have hb':Rows.uptoBulk (DataW.slice (H:=H) ((List.range n).map D) ((List.range (c - n)).map λj=>D (n+j)))<=1048576:=hb
  have hcc:c<=1048576:=by
   simp only [List.length_map,List.length_range] at hss
   omega
  have each:∀r,r<n->∃q:Int×Int,W.cell? (a.add (r*2))=some (.int .i64 q.1)/\W.cell? (a.add (r*2+1))=some (.int .i64 q.2)/\zcA q.1/\zcA q.2:=λr hr=>by
   obtain⟨cs,hcl,htr⟩:=hi r (by omega)
   rw [hC] at hcl
   obtain⟨_,hlen,hat⟩:=World.cells?_some hcl
   obtain⟨c0,c1,rfl⟩:∃c0 c1,cs=[c0,c1]:=by
    match cs,hlen with
    |[c0,c1],_=>exact⟨c0,c1,rfl⟩
   obtain⟨p,q,rfl,rfl,hp,hq⟩:=zmK (x:=(D r,Pl r)) hs hf h0 h1 htr
   have h0:=hat 0 (by decide)
   have h1:=hat 1 (by decide)
   rw [Go.Deep.add_add] at h0 h1
   exact⟨(p,q),h0,h1,hp,hq⟩
  obtain ⟨f,hf2⟩ : ∃ f : Nat → Int × Int,∀ r,r < n → W.cell? (a.add (r * 2)) = some (.int .i64 (f r).1) ∧ W.cell? (a.add (r * 2 + 1)) = some (.int .i64 (f r).2) ∧ zcA (f r).1 ∧ zcA (f r).2 :=
   ⟨λr=>if hr:r<n then(each r hr).choose else(0,0),λr hr=>by simp only [dif_pos hr];exact(each r hr).choose_spec⟩
  refine⟨(List.range n).map f,by simp,hl,hcc,λq hq=>?_,λr q hr=>?_⟩
  ·obtain⟨r,hr,rfl⟩:=List.mem_map.1 hq
   exact(hf2 r (List.mem_range.1 hr)).2.2
  ·have hlt:r<n:=by
    have:=(List.getElem?_eq_some_iff.1 hr).1
    simpa using this
   obtain rfl:f r=q:=by
    rw [List.getElem?_map,List.getElem?_range hlt] at hr
    simpa using hr
   obtain⟨c0,c1,_⟩:=hf2 r hlt
   refine⟨a,rfl,?_,c0,c1⟩
   have:=World.block_lt_of_cell? W _ c0
   rw [zao] at this
   exact this
theorem zig {H:Type}{enc:TypeId×Value->H}{P:Program}{W:World}{fuel:Nat}{t0 t:TypeId}{f0 f1:Field}{v:Value}{x:DataW H×List MemPlace}
  (ht:P.underlying t0=some (.slice t)) (hs:P.underlying t=some (.struct #[f0,f1])) (hf:(f0.offset,P.cellsOf f0.type,f1.offset,P.cellsOf f1.type)=(0,1,1,1)) (hC:P.cellsOf t=2) (h0:P.underlying f0.type=some (.int .i64)) (h1:P.underlying f1.type=some (.int .i64))
  (h:DataW.trod enc P W 0 (λ_=>true) true fuel t0 [v]=some x) (hb:Rows.uptoBulk x.1<=1048576):∃A n c L,v=.slice A n c/\zbc W A n c L:=by
 have go:∀A n c,[v]=[Value.slice A n c]->∃A n c L,v=.slice A n c/\zbc W A n c L:=λA n c e=>by
  simp only [List.cons.injEq,and_true] at e
  subst e
  obtain⟨L,hL⟩:=zot ht hs hf hC h0 h1 (A:=A) (n:=n) (c:=c) (by simpa [Value.cells] using h) hb
  exact⟨A,n,c,L,rfl,hL⟩
 rcases open_slice ht h with⟨hcs,_⟩|⟨a,len,cap,m,k,D,Pl,hcs,_⟩
 ·exact go _ _ _ hcs
 ·exact go _ _ _ hcs
structure zba (W:World)(A:oA9)(n c:Nat)(R:Nat->oA9×Nat×Nat×List (Int×Int)):Prop where
 fits:n<=c
 small:c<=1048576
 row:∀r,r<n->∃ad,A=some ad/\ad.block<W.heap.size/\W.cell? (ad.add r)=some (.slice (R r).1 (R r).2.1 (R r).2.2.1)/\zbc W (R r).1 (R r).2.1 (R r).2.2.1 (R r).2.2.2
theorem zji {H:Type}{enc:TypeId×Value->H}{P:Program}{W:World}{fuel:Nat}{t9 t0 t:TypeId}{f0 f1:Field}{A:oA9}{n c:Nat}{x:DataW H×List MemPlace}
  (ht9:P.underlying t9=some (.slice t0)) (hC9:P.cellsOf t0=1) (ht:P.underlying t0=some (.slice t)) (hs:P.underlying t=some (.struct #[f0,f1])) (hf:(f0.offset,P.cellsOf f0.type,f1.offset,P.cellsOf f1.type)=(0,1,1,1)) (hC:P.cellsOf t=2) (h0:P.underlying f0.type=some (.int .i64)) (h1:P.underlying f1.type=some (.int .i64))
  (h:DataW.trod enc P W 0 (λ_=>true) true fuel t9 (Value.slice A n c).cells.toList=some x) (hb:Rows.uptoBulk x.1<=1048576):∃R,zba W A n c R:=by
 rcases open_slice ht9 h with⟨hcs,_⟩|⟨a,len,cap,m,k,D,Pl,hcs,_,hl,hm,hmm,hx,hi⟩
 ·simp [Value.cells] at hcs
  obtain⟨rfl,rfl,rfl⟩:=hcs
  exact⟨λ_=>(none,0,0,[]),Nat.le_refl _,by omega,λr hr=>by omega⟩
 ·simp [Value.cells] at hcs
  obtain⟨rfl,rfl,rfl⟩:=hcs
  rw [if_pos rfl] at hmm
  rw [hmm] at hx hi
  subst hx
  have hss:=UA.slice_le (H:=H) ((List.range n).map D) ((List.range (c - n)).map λj=>D (n+j))
  have hb':Rows.uptoBulk (DataW.slice (H:=H) ((List.range n).map D) ((List.range (c - n)).map λj=>D (n+j)))<=1048576:=hb
  have hcc:c<=1048576:=by
   simp only [List.length_map,List.length_range] at hss
   omega
  have each:∀r,r<n->∃q:oA9×Nat×Nat×List (Int×Int),W.cell? (a.add r)=some (.slice q.1 q.2.1 q.2.2.1)/\zbc W q.1 q.2.1 q.2.2.1 q.2.2.2:=λr hr=>by
   obtain⟨cs,hcl,htr⟩:=hi r (by omega)
   rw [hC9] at hcl
   obtain⟨_,hlen,hat⟩:=World.cells?_some hcl
   obtain⟨c0,rfl⟩:∃c0,cs=[c0]:=by
    match cs,hlen with
    |[c0],_=>exact⟨c0,rfl⟩
   have hD:Rows.uptoBulk (D r)<=1048576:=by
    have hm1:D r ∈(List.range n).map D:=List.mem_map.2 ⟨r,List.mem_range.2 hr,rfl⟩
    have hm2:=UA.mem_le hm1
    simp only [Rows.uptoBulk] at hb'
    omega
   obtain⟨A',n',c',L,rfl,hL⟩:=zig (x:=(D r,Pl r)) ht hs hf hC h0 h1 htr hD
   have h0:=hat 0 (by decide)
   rw [Go.Deep.add_add,Nat.mul_one,Nat.add_zero] at h0
   exact⟨(A',n',c',L),h0,hL⟩
  refine⟨λr=>if hr:r<n then(each r hr).choose else(none,0,0,[]),hl,hcc,λr hr=>⟨a,rfl,?_,?_⟩⟩
  ·have:=World.block_lt_of_cell? W _ (each r hr).choose_spec.1
   rw [zao] at this
   exact this
  ·simp only [dif_pos hr]
   exact(each r hr).choose_spec
theorem zbc.take {W:World}{A:oA9}{n c N:Nat}{L:List (Int×Int)}(h:zbc W A n c L)(hN:N<=n):zbc W A N c (L.take N):=by
 have hl:=h.len
 have hf:=h.fits
 refine⟨by rw [List.length_take];omega,by omega,h.small,λq hq=>h.ints q (List.mem_of_mem_take hq),λr q hr=>?_⟩
 rw [List.getElem?_take] at hr
 split at hr
 ·exact h.row r q hr
 ·cases hr
open Go Go.RowKit
open Go.ChangeShapes Go.WideShapes Go.ChangeAt Go.Deep
set_option maxHeartbeats 16000000
set_option linter.unusedVariables false
theorem zga {H:Type}{enc:TypeId×Value->H}{P:Program}{W:World}{fuel:Nat}{t9 t0 t:TypeId}{f0 f1:Field}{v:Value}{x:DataW H×List MemPlace}
  (ht9:P.underlying t9=some (.slice t0)) (hC9:P.cellsOf t0=1) (ht:P.underlying t0=some (.slice t)) (hs:P.underlying t=some (.struct #[f0,f1])) (hf:(f0.offset,P.cellsOf f0.type,f1.offset,P.cellsOf f1.type)=(0,1,1,1)) (hC:P.cellsOf t=2) (h0:P.underlying f0.type=some (.int .i64)) (h1:P.underlying f1.type=some (.int .i64))
  (h:DataW.trod enc P W 0 (λ_=>true) true fuel t9 [v]=some x) (hb:Rows.uptoBulk x.1<=1048576):∃A n c R,v=.slice A n c/\zba W A n c R:=by
 have go:∀A n c,[v]=[Value.slice A n c]->∃A n c R,v=.slice A n c/\zba W A n c R:=λA n c e=>by
  simp only [List.cons.injEq,and_true] at e
  subst e
  obtain⟨R,hR⟩:=zji ht9 hC9 ht hs hf hC h0 h1 (A:=A) (n:=n) (c:=c) (by simpa [Value.cells] using h) hb
  exact⟨A,n,c,R,rfl,hR⟩
 rcases open_slice ht9 h with⟨hcs,_⟩|⟨a,len,cap,m,k,D,Pl,hcs,_⟩
 ·exact go _ _ _ hcs
 ·exact go _ _ _ hcs
theorem arg_grid {H:Type}{enc:TypeId×Value->H}{P:Program}{W:World}{r:Reach}{b0:Nat}{t8 t9 t0 t:TypeId}{g0 g1 f0 f1:Field}{v:Value}{d:DataW H}{p:List MemPlace}
  (hs8:P.underlying t8=some (.struct #[g0,g1])) (hone:oneCellFields P #[g0,g1]=true) (hC8:P.cellsOf t8=2) (k0:P.underlying g0.type=some (.int .u8)) (ht9:P.underlying g1.type=some (.slice t0)) (hC9:P.cellsOf t0=1) (ht:P.underlying t0=some (.slice t))
  (hs:P.underlying t=some (.struct #[f0,f1])) (hf:(f0.offset,P.cellsOf f0.type,f1.offset,P.cellsOf f1.type)=(0,1,1,1)) (hC:P.cellsOf t=2) (h0:P.underlying f0.type=some (.int .i64)) (h1:P.underlying f1.type=some (.int .i64))
  (hv:Value.okWide P W r b0 t8 v) (h:DataW.Trod enc P W 0 (λ_=>true) true t8 v d p) (hb:Rows.uptoBulk d<=1048576):∃(z:Nat) (A:oA9) (n c:Nat) (R:Nat->oA9×Nat×Nat×List (Int×Int)),v=.agg #[.int .u8 (z:Int),.slice A n c]/\z<=255/\zba W A n c R:=by
 obtain⟨v0,v1,y0,y1,n,rfl,rfl,rfl,e0,e1⟩:=Go.Joins.open_agg2 hs8 hone hC8 hv h
 obtain⟨z,hz,_,wz⟩:=DataW.trod_int k0 e0
 simp only [List.cons.injEq,and_true] at hz
 subst hz
 have bz:=bounds_u8 wz
 obtain⟨A,m,c,R,rfl,hR⟩:=zga ht9 hC9 ht hs hf hC h0 h1 e1 (by simp only [Rows.uptoBulk,Rows.uptoBulkAll] at hb;omega)
 exact⟨z.toNat,A,m,c,R,by rw [Int.toNat_of_nonneg bz.1],by omega,hR⟩
open Go Go.RowKit
set_option maxHeartbeats 16000000
set_option maxRecDepth 100000
set_option linter.unusedVariables false
set_option linter.unusedSimpArgs false
structure zic (w:World)(A:oA9)(n c:Nat)(rs:List Rat):Prop where
 len:rs.length=n
 fits:n<=c
 most:c<=9223372036854775807
 num:∀i,i<n->∃(ad:Addr) (b:Bool) (B:oA9) (m d:Nat) (E:oA9) (u v:Nat),A=some ad/\ad.block<w.heap.size/\w.cell? (ad.add (i*3))=some (.bool b)/\w.cell? (ad.add (i*3+1))=some (.slice B m d)/\w.cell? (ad.add (i*3+2))=some (.slice E u v)/\zah w (rs.getD i 0) b B m d E u v
theorem zic.below {w w':World}{A:oA9}{n c:Nat}{rs:List Rat}(h:zic w A n c rs)(hb:Below w.heap.size w w'):zic w' A n c rs:=
 ⟨h.len,h.fits,h.most,λi hi=>by
  obtain⟨ad,b,B,m,d,E,u,v,e,h1,h2,h3,h4,h5⟩:=h.num i hi
  exact⟨ad,b,B,m,d,E,u,v,e,Nat.lt_of_lt_of_le h1 hb.size,zac hb h2,zac hb h3,zac hb h4,h5.below hb⟩⟩
def zhL (rs:List Rat):Rat:=rs.foldl (λa b=>a+b) 0
theorem zpz (rs:List Rat)(r:Rat):zhL (rs++[r])=zhL rs+r:=by unfold zhL;rw [List.foldl_append];rfl
theorem zpA (rs:List Rat)(k:Nat)(h:k<rs.length):zhL (rs.take (k+1))=zhL (rs.take k)+rs.getD k 0:=by
 rw [List.take_succ_eq_append_getElem h,zpz,List.getD_eq_getElem?_getD,List.getElem?_eq_getElem h]
 rfl
theorem znp {w:World}{r:Rat}{b:Bool}{A E:oA9}{n c k f g:Nat}{t:TypeId}{p:Bool}{q q2:oA9}{r1 s r2 s2:Nat}(h:zah w r b A n c E k f)(kd:Blk w g t #[.bool p,.slice q r1 s,.slice q2 r2 s2])(x y z:Value):
  zah (((w.setCell ⟨g,0,none⟩ x).setCell ⟨g,1,none⟩ y).setCell ⟨g,2,none⟩ z) r b A n c E k f:=zbu h kd (NoU.s3 _ _ _ _ _ _ _) (zdP _ _ _ _ _)
theorem blk_far3 {w:World}{g g':Nat}{t:TypeId}{cs:Array Value}(h:Blk w g t cs)(hne:g≠g')(x y z:Value):Blk (((w.setCell ⟨g',0,none⟩ x).setCell ⟨g',1,none⟩ y).setCell ⟨g',2,none⟩ z) g t cs:=((h.far (p:=⟨g',0,none⟩) hne x).far (p:=⟨g',1,none⟩) hne y).far (p:=⟨g',2,none⟩) hne z
theorem cell_q1 {w:World}{ad:Addr}{k:Nat}{v:Value}(h:w.cell? (ad.add (k+1))=some v):w.cell? ⟨(ad.add k).block,(ad.add k).off+1,none⟩=some v:=by
 rw [<-Go.Deep.add_add] at h
 exact h
theorem cell_q2 {w:World}{ad:Addr}{k:Nat}{v:Value}(h:w.cell? (ad.add (k+2))=some v):w.cell? ⟨(ad.add k).block,(ad.add k).off+2,none⟩=some v:=by
 rw [<-Go.Deep.add_add] at h
 exact h
theorem rat_sum (rs:List Rat)(A:oA9)(n c K:Nat)(w:World)(hT:zai w)(h:zic w A n c rs)(hn:n<=1073741824)(hK:K<=67108864)(he:∀i,i<n->SzQ K (rs.getD i 0))(hs:∀k,k<=n->SzQ K (zhL (rs.take k))):
  Calls Tryz.prog 106 #[.slice A n c] w (zaJ w (zhL rs)):=by
 have HTB:=lh9 (λw' (h:Below w.heap.size w w')=>hT.on h)
 have HN:=lh9 (λw' (hb:Below w.heap.size w w')=>h.below hb)
 have HS:=lh9 hs
 have HE:=lh9 he
 have HSU:=lh9 (λk (hk:k<n)=>zpA rs k (by rw [h.len];exact hk))
 have HF:Hid (zhL (rs.take n)=zhL rs):=by
  show _=_
  rw [List.take_of_length_le (by rw [h.len];exact Nat.le_refl _)]
 clear h hs he hT
 go_enter Tryz.func106,Tryz.ntmps106
 go_wp2_with fail
 obtain⟨hB,hk1,hp,b5⟩:=zbC w 53 53 #[.bool false,.slice none 0 0,.slice none 0 0] #[.bool false,.slice none 0 0,.slice none 0 0]
 generalize hV:(w.alloc (.cells #[.bool false,.slice none 0 0,.slice none 0 0] 53)).alloc (.cells #[.bool false,.slice none 0 0,.slice none 0 0] 53)=V1 at*
 clear hV b5
 obtain⟨gp,hgp⟩:∃g,w.heap.size+1=g:=⟨_,rfl⟩
 rw [hgp] at hp⊢
 have hgw:w.heap.size<gp:=by omega
 go_loopg [9] (n+1) (λg ix wr=>∃(k:Nat) (b:Bool) (Ap:oA9) (np cp:Nat) (Ep:oA9) (kp fp:Nat),k<=n/\n<g+k/\ix=.int .i64 k/\zah wr (zhL (rs.take k)) b Ap np cp Ep kp fp/\Blk wr gp 53 #[.bool b,.slice Ap np cp,.slice Ep kp fp]/\Below w.heap.size w wr/\Blk wr w.heap.size 53 #[.bool false,.slice none 0 0,.slice none 0 0])
 case atStart=>exact⟨0,false,none,0,0,none,0,0,Nat.zero_le _,by omega,rfl,zfq _,hp,hB,hk1⟩
 case round=>
  clear hp hB hk1 hgp
  obtain⟨k,b,Ap,np,cp,Ep,kp,fp,hkn,hg,rfl,hw,hp,hB,hk1⟩:=hrel
  by_cases hlt:k<n
  ·obtain⟨ad,b1,B1,m1,d1,E1,u1,v1,rfl,hadb,hc0,hc1,hc2,hx⟩:=(HN.out _ hB).num k hlt
   have HM:=lh9 (λw' (hb:Below wr.heap.size wr w')=>zkB (zhL (rs.take k)) (rs.getD k 0) b Ap np cp Ep kp fp b1 B1 m1 d1 E1 u1 v1 w' (HTB.out _ (zaa hB hb)) (hw.below hb) (hx.below hb) (SzQ.fit (HS.out k hkn) hw hK) (SzQ.fit (HE.out k hlt) hx hK))
   have hc1:=cell_q1 hc1
   have hc2:=cell_q2 hc2
   have i1:(0:Int)<=(k:Int):=by omega
   have i2:(k:Int)<(n:Int):=by omega
   obtain⟨p0,p1,p2⟩:=hp.c3
   obtain⟨st,d2,d3⟩:=zax wr 53 #[.bool b1,.slice B1 m1 d1,.slice E1 u1 v1]
   obtain⟨q0,q1,q2⟩:=d2.c3
   have p3:=zac st p0
   have p4:=zac st p1
   have p5:=zac st p2
   have HM2:=lh9 (HM.out _ st)
   have HB1:=lh9 (zaa hB st)
   have HP1:=lh9 (zab st hp)
   have HK2:=lh9 (zab st hk1)
   clear hw hx hB hp hk1 HM st d2 d3
   go_wp2_with fail
   refine HM2.out.mono ?_
   rintro e w3 ⟨b3,A3,n3,c3,E3,k3,f3,rfl,hw3,hb⟩
   rw [<-HSU.out k hlt] at hw3
   have hB3:=zaa HB1.out hb
   have hp3:=zab hb HP1.out
   have hk3:=zab hb HK2.out
   obtain⟨sc0,sf0,sc1,sf1,sc2,sf2⟩:=st3 hp3 (.bool b3) (.slice A3 n3 c3)
   have hw4:=znp hw3 hp3 (.bool b3) (.slice A3 n3 c3) (.slice E3 k3 f3)
   have hB4:=bl3 (.bool b3) (.slice A3 n3 c3) (.slice E3 k3 f3) (by show w.heap.size<=gp;omega) hB3
   have hp4:=sn3 hp3 (.bool b3) (.slice A3 n3 c3) (.slice E3 k3 f3)
   have hk4:=blk_far3 hk3 (by show w.heap.size≠gp;omega) (.bool b3) (.slice A3 n3 c3) (.slice E3 k3 f3)
   clear hb hB3 hp3 hk3 hw3 HM2 HB1 HP1 HK2 hc0 hc1 hc2 p0 p1 p2 p3 p4 p5 q0 q1 q2
   go_wp2
   go_roundg (n - k)
   case measure=>omega
   case rel=>exact⟨k+1,b3,A3,n3,c3,E3,k3,f3,by omega,by omega,by go_num,hw4,hp4,hB4,hk4⟩
  ·have hkn:k=n:=by omega
   subst hkn
   rw [HF.out] at hw
   obtain⟨p0,p1,p2⟩:=hp.c3
   obtain⟨sc0,sf0,sc1,sf1,sc2,sf2⟩:=st3 hk1 (.bool b) (.slice Ap np cp)
   obtain⟨r0,r1,r2⟩:=(sn3 hk1 (.bool b) (.slice Ap np cp) (.slice Ep kp fp)).c3
   have HG:=lh9 (gq3 hw hk1 hB (Nat.le_refl _))
   clear hw hp hk1 hB
   go_wp2
   refine bodyPost_ret (v:=.agg #[.bool b,.slice Ap np cp,.slice Ep kp fp]) (by simp [results,Tryz.results106,go_sem,r0,r1,r2]) rfl ?_
   exact HG.out
open Go Go.RowKit
set_option maxHeartbeats 16000000
set_option linter.unusedVariables false
section
variable {K K':Nat}{x y:Rat}{b b':Bool}{A A':oA9}{n n' c c':Nat}{E E':oA9}{k k' f f':Nat}{w:World}
theorem q_add (hT:zai w)(h:zah w x b A n c E k f)(h':zah w y b' A' n' c' E' k' f')(z:SzQ K x)(z':SzQ K' y)(hK:K<=67108864:=by omega)(hK':K'<=67108864:=by omega):
  Calls Tryz.prog 104 #[.agg #[.bool b,.slice A n c,.slice E k f],.agg #[.bool b',.slice A' n' c',.slice E' k' f']] w (zaJ w (x+y)):=zkB x y b A n c E k f b' A' n' c' E' k' f' w hT h h' (z.fit h hK) (z'.fit h' hK')
theorem zfm (hT:zai w)(h:zah w x b A n c E k f)(h':zah w y b' A' n' c' E' k' f')(z:SzQ K x)(z':SzQ K' y)(hK:K<=67108864:=by omega)(hK':K'<=67108864:=by omega):
  Calls Tryz.prog 56 #[.agg #[.bool b,.slice A n c,.slice E k f],.agg #[.bool b',.slice A' n' c',.slice E' k' f']] w (zaJ w (x*y)):=zoh x y b A n c E k f b' A' n' c' E' k' f' w hT h h' (z.fit h hK) (z'.fit h' hK')
theorem q_cmp (hT:zai w)(h:zah w x b A n c E k f)(h':zah w y b' A' n' c' E' k' f')(z:SzQ K x)(z':SzQ K' y)(hK:K<=67108864:=by omega)(hK':K'<=67108864:=by omega):
  Calls Tryz.prog 164 #[.agg #[.bool b,.slice A n c,.slice E k f],.agg #[.bool b',.slice A' n' c',.slice E' k' f']] w (zcf w (zgb x y)):=zog x y b A n c E k f b' A' n' c' E' k' f' w hT h h' (z.fit h hK) (z'.fit h' hK')
theorem q_same {t:Bool}(e:decide (x=y)=t)(hT:zai w)(h:zah w x b A n c E k f)(h':zah w y b' A' n' c' E' k' f')(z:SzQ K x)(z':SzQ K' y)(hK:K<=67108864:=by omega)(hK':K'<=67108864:=by omega):
  Calls Tryz.prog 55 #[.agg #[.bool b,.slice A n c,.slice E k f],.agg #[.bool b',.slice A' n' c',.slice E' k' f']] w (λe w'=>e=.returned (.bool t)/\Below w.heap.size w w'):=zau e (zlR x y b A n c E k f b' A' n' c' E' k' f' w hT h h' (z.fit h hK) (z'.fit h' hK'))
theorem ziK {t:Bool}(e:decide (x=0)=t)(hT:zai w)(h:zah w x b A n c E k f)(z:SzQ K x)(hK:K<=67108864:=by omega):
  Calls Tryz.prog 24 #[.agg #[.bool b,.slice A n c,.slice E k f]] w (λe w'=>e=.returned (.bool t)/\Below w.heap.size w w'):=zau e (zaS x b A n c E k f w hT h (z.fit h hK))
end
theorem en_mul:∀(args:Array Value) (w':World),Sem.run Tryz.prog (callFunc 56 args) w'=.ok (.enter 56 args) w':=Go.Proofs.enters_of Tryz.func56 (by kernel_rfl) rfl
theorem en_addt:∀(args:Array Value) (w':World),Sem.run Tryz.prog (callFunc 103 args) w'=.ok (.enter 103 args) w':=Go.Proofs.enters_of Tryz.func103 (by kernel_rfl) rfl
theorem zaC.rats {w:World}{A:oA9}{n c:Nat}{xs:List Rat}(h:zaC w A n c xs):zic w A n c xs:=⟨h.len,h.fits,h.most,λi hi=>h.at_ hi 0⟩
theorem sum_is (rs:List Rat):zhL rs=zdz rs:=rfl
theorem q_sum {K n c:Nat}{A:oA9}{xs:List Rat}{w:World}(hT:zai w)(h:zaC w A n c xs)(hx:zar K xs)(hn:n<=1073741824)(hK:1+n*(K+1)<=67108864):
  Calls Tryz.prog 106 #[.slice A n c] w (zaJ w (zdz xs)):=by
 have hl:=h.len
 have e:=sum_is xs
 rw [<-e]
 refine rat_sum xs A n c (1+n*(K+1)) w hT h.rats hn hK (λi hi=>(hx.at_ (by omega)).up ?_) (λk hk=>?_)
 ·have:K+1<=n*(K+1):=Nat.le_mul_of_pos_left _ (by omega)
  omega
 ·rw [sum_is]
  exact take_sz hx hl k hk
theorem zmg {w:World}{g:Nat}{t:TypeId}{x:Rat}{b:Bool}{A:oA9}{n c:Nat}{E:oA9}{k f:Nat}(h:Blk w g t #[.bool b,.slice A n c,.slice E k f])(hx:zah w x b A n c E k f):zaC w (some ⟨g,0,none⟩) 1 1 [x]:=
 ⟨rfl,Nat.le_refl _,by decide,λi y hi=>by
  have h0:i=0:=by
   have:=(List.getElem?_eq_some_iff.1 hi).1
   simpa using this
  subst h0
  obtain rfl:x=y:=by simpa using hi
  exact⟨_,b,A,n,c,E,k,f,rfl,h.lt,by rw [zaO];exact h.cell 0,by rw [zaO];exact h.cell 1,by rw [zaO];exact h.cell 2,hx⟩⟩
open Go Go.RowKit
set_option maxHeartbeats 16000000
set_option maxRecDepth 100000
set_option linter.unusedVariables false
set_option linter.unusedSimpArgs false
structure zgW (w:World)(A:oA9)(n:Nat)(Ls:List (List Rat)):Prop where
 len:Ls.length=n
 num:∀i L,Ls[i]?=some L->∃(ad:Addr) (B:oA9) (d:Nat),A=some ad/\ad.block<w.heap.size/\w.cell? (ad.add i)=some (.slice B L.length d)/\zaC w B L.length d L
theorem zgW.below {w w':World}{A:oA9}{n:Nat}{Ls:List (List Rat)}(h:zgW w A n Ls)(hb:Below w.heap.size w w'):zgW w' A n Ls:=
 ⟨h.len,λi L hi=>by
  obtain⟨ad,B,d,e,h1,h2,h3⟩:=h.num i L hi
  exact⟨ad,B,d,e,Nat.lt_of_lt_of_le h1 hb.size,zac hb h2,h3.keep hb⟩⟩
theorem zbK {α:Type}{xs:List α}{k:Nat}{d:α}(h:k<xs.length):xs[k]?=some (xs.getD k d):=by
 rw [List.getD_eq_getElem?_getD,List.getElem?_eq_getElem h];rfl
section
variable {K L:Nat}{rs:List Rat}{Ls:List (List Rat)}{A B:oA9}{n n' c d:Nat}{w:World}
end
open Go Go.RowKit
set_option maxHeartbeats 16000000
set_option maxRecDepth 100000
set_option linter.unusedVariables false
set_option linter.unusedSimpArgs false
theorem zny:zdD RefQ where
 below h hb:=h.below hb
 offg h hk hcs ho:=⟨⟨h.1.1,ziv h.1.2 hk hcs ho⟩,ziv h.2 hk hcs ho⟩
abbrev zid (w:World)(A:oA9)(n c:Nat)(xs:List Rat):Prop:=zaN RefQ w A n c xs
theorem zid.keep {w w':World}{A:oA9}{n c:Nat}{xs:List Rat}(h:zid w A n c xs)(hb:Below w.heap.size w w'):zid w' A n c xs:=zaN.below zny h hb
theorem zid.get {w wr:World}{A:oA9}{n c:Nat}{xs:List Rat}(h:zid w A n c xs)(hb:Below w.heap.size w wr){i:Nat}(hi:i<n):∃(ad:Addr) (b:Bool) (B:oA9) (m d:Nat) (F:oA9) (u v:Nat),A=some ad/\ad.block<w.heap.size/\wr.cell? (ad.add (i*3))=some (.bool b)/\wr.cell? ⟨(ad.add (i*3)).block,(ad.add (i*3)).off+1,none⟩=some (.slice B m d)/\wr.cell? ⟨(ad.add (i*3)).block,(ad.add (i*3)).off+2,none⟩=some (.slice F u v)/\RefQ wr (xs.getD i 0) b B m d F u v:=by
 obtain⟨ad,b,B,m,d,F,u,v,e,h0,h1,h2,h3,h4⟩:=h.at_ hi 0
 exact⟨ad,b,B,m,d,F,u,v,e,h0,zac hb h1,zac hb (zhN h2),zac hb (znP h3),h4.below hb⟩
open Go Go.RowKit
set_option maxHeartbeats 16000000
set_option maxRecDepth 100000
set_option linter.unusedVariables false
set_option linter.unusedSimpArgs false
theorem znW {T:World->Prop}{M:Nat->Prop}(hTb:∀w w',T w->Below w.heap.size w w'->T w')(IC:IntC T)(QC:RatC T M)(p q:Int)(r:Rat)(K:Nat)(bx:Bool)(Bx:oA9)(mx dx:Nat)(Ex:oA9)(ux vx:Nat)(w:World)(hK:K<=16777216)(hz:SzQ K r)(h:zah w r bx Bx mx dx Ex ux vx)(hT:T w)(hp1: -9223372036854775808<=p)(hp2:p<=9223372036854775807)(hq1: -9223372036854775808<=q)(hq2:q<=9223372036854775807)(hq0:q≠0)(he:r=Rat.divInt p q):
  Calls Tryz.prog 52 #[.agg #[.bool bx,.slice Bx mx dx,.slice Ex ux vx],.int .i64 p,.int .i64 q] w λe w'=>e=.returned (.bool true)/\Below w.heap.size w w':=by
 have HIC:=lh9 IC
 have HQC:=lh9 QC
 have HT:=lh9 (λw' (hb:Below w.heap.size w w')=>hTb w w' hT hb)
 have HE:=lh9 he
 have HZx:=lh9 hz
 have HNx:=lh9 h
 clear IC QC hT he hz h
 go_enter Tryz.func52,Tryz.ntmps52
 have hB:=Below.refl w.heap.size w
 obtain⟨bx1,bx2,bz⟩:=zax w 53 #[.bool bx,.slice Bx mx dx,.slice Ex ux vx]
 have hB:=zaa hB bx1
 have HNx:=lh9 (HNx.out.below bx1)
 obtain⟨g1,e1,i1⟩:=bx2.c3
 clear bx1 bx2 bz
 go_wp2_with fail
 generalize w.alloc (.cells #[.bool bx,.slice Bx mx dx,.slice Ex ux vx] 53)=W1 at*
 have HZ2:Hid (SzQ (1) (Rat.divInt p q)):=SzQ.made (K:=1) (by show Int.natAbs p<18446744073709551616^1;have e1: -9223372036854775808<=p:=hp1;have e2:p<=9223372036854775807:=hp2;omega) (by show Int.natAbs q<18446744073709551616^1;have e1: -9223372036854775808<=q:=hq1;have e2:q<=9223372036854775807:=hq2;omega) (by decide)
 (with_reducible refine(HQC.out.of p q _ (HT.out _ hB) hp1 hp2 hq1 hq2 hq0).mono ?_)
 rintro e wc2 ⟨b2,B2,m2,d2,E2,u2,v2,rfl,hw2,hb⟩
 have hB:=zaa hB hb
 have HNx:=lh9 (HNx.out.below hb)
 have g1:=zac hb g1
 have e1:=zac hb e1
 have i1:=zac hb i1
 have HN2:=lh9 hw2
 clear hb hw2
 obtain⟨bx1,bx2,bz⟩:=zax wc2 53 #[.bool b2,.slice B2 m2 d2,.slice E2 u2 v2]
 have hB:=zaa hB bx1
 have HNx:=lh9 (HNx.out.below bx1)
 have g1:=zac bx1 g1
 have e1:=zac bx1 e1
 have i1:=zac bx1 i1
 have HN2:=lh9 (HN2.out.below bx1)
 obtain⟨g3,e3,i3⟩:=bx2.c3
 clear bx1 bx2 bz
 go_wp2_with fail
 generalize wc2.alloc (.cells #[.bool b2,.slice B2 m2 d2,.slice E2 u2 v2] 53)=W3 at*
 generalize wc2.heap.size=q3 at*
 have C0:=lh9 (λw' (h:Below W3.heap.size W3 w')=>zau (decide_eq_true HE.out) (HQC.out.same (r) (Rat.divInt p q) bx b2 Bx B2 mx m2 dx d2 Ex E2 ux u2 vx v2 w' (HT.out _ (zaa hB h)) (HNx.out.below h) (HN2.out.below h) (szq HZx HNx.out) (szq HZ2 HN2.out)))
 have HZ4:Hid (Sz (K) (r.num).natAbs):=SzQ.num HZx.out
 have C1:=lh9 (λw' (h:Below W3.heap.size W3 w')=>HQC.out.num (r) bx Bx mx dx Ex ux vx w' (HT.out _ (zaa hB h)) (HNx.out.below h) (szq HZx HNx.out))
 have HZ5:Hid (Sz (1) ((Rat.divInt p q).num).natAbs):=SzQ.num HZ2.out
 have C2:=lh9 (λw' (h:Below W3.heap.size W3 w')=>HQC.out.num (Rat.divInt p q) b2 B2 m2 d2 E2 u2 v2 w' (HT.out _ (zaa hB h)) (HN2.out.below h) (szq HZ2 HN2.out))
 have C3:=lh9 (λw' (h:Below W3.heap.size W3 w') b4 B4 m4 d4 (hw4:zaA w' (r.num) b4 B4 m4 d4) b5 B5 m5 d5 (hw5:zaA w' ((Rat.divInt p q).num) b5 B5 m5 d5)=>icmp_eq (by rw [HE.out]) (HIC.out.cmp (r.num) ((Rat.divInt p q).num) b4 b5 B4 B5 m4 m5 d4 d5 w' (HT.out _ (zaa hB h)) hw4 hw5 (by have:=Sz.words HZ4.out hw4.words;omega) (by have:=Sz.words HZ5.out hw5.words;omega)))
 have HZ6:Hid (Sz (K) (r.den)):=SzQ.den HZx.out
 have C4:=lh9 (λw' (h:Below W3.heap.size W3 w')=>HQC.out.den (r) bx Bx mx dx Ex ux vx w' (HT.out _ (zaa hB h)) (HNx.out.below h) (szq HZx HNx.out))
 have HZ7:Hid (Sz (1) ((Rat.divInt p q).den)):=SzQ.den HZ2.out
 have C5:=lh9 (λw' (h:Below W3.heap.size W3 w')=>HQC.out.den (Rat.divInt p q) b2 B2 m2 d2 E2 u2 v2 w' (HT.out _ (zaa hB h)) (HN2.out.below h) (szq HZ2 HN2.out))
 have C6:=lh9 (λw' (h:Below W3.heap.size W3 w') B6 m6 d6 (hw6:zad w' (r.den) B6 m6 d6) B7 m7 d7 (hw7:zad w' ((Rat.divInt p q).den) B7 m7 d7)=>cmpEq (x:=r.den) (y:=(Rat.divInt p q).den) (by rw [HE.out]) hw6 hw7 (szw HZ6 hw6) (szw HZ7 hw7))
 have hBw:=(Below.refl W3.heap.size W3).drew
 refine rg (csc g1 (csc e1 (csc i1 (csc g3 (csc e3 (csc i3 csn)))))) (λhHeld=>?_)
 refine tk 0 ?_
 refine tk 1 ?_
 refine tk 2 ?_
 refine tk 3 ?_
 refine rc 4 (λK hK=>?_)
 go_simp
 go_at_call 55;(with_reducible refine(C0.out _ hBw).mono ?_);rintro e wa4 ⟨rfl,hb⟩;have hBw:=zaa hBw hb;refine hK.out _ _ (Cs.below hHeld hb) (λhHeld=>?_);clear hK K hb
 try simp only [sb9]
 refine tk 5 ?_
 refine tk 6 ?_
 refine tk 7 ?_
 refine tk 9 ?_
 refine rc 8 (λK hK=>?_)
 go_simp
 go_at_call 87;(with_reducible refine(C1.out _ hBw).mono ?_);rintro e wa5 ⟨b4,B4,m4,d4,rfl,hw4,hb⟩;have hBw:=zaa hBw hb;refine hK.out _ _ (Cs.below hHeld hb) (λhHeld=>?_);clear hK K hb
 try simp only [sb9]
 refine rc 10 (λK hK=>?_)
 go_simp
 go_at_call 87;(with_reducible refine(C2.out _ hBw).mono ?_);rintro e wa6 ⟨b5,B5,m5,d5,rfl,hw5,hb⟩;have hBw:=zaa hBw hb;have hw4:=hw4.below hb;refine hK.out _ _ (Cs.below hHeld hb) (λhHeld=>?_);clear hK K hb
 try simp only [sb9]
 refine rc 11 (λK hK=>?_)
 go_simp
 go_at_call 117;(with_reducible refine(C3.out _ hBw _ _ _ _ hw4 _ _ _ _ hw5).mono ?_);rintro e wa7 ⟨rfl,hb⟩;have hBw:=zaa hBw hb;have hw4:=hw4.below hb;have hw5:=hw5.below hb;refine hK.out _ _ (Cs.below hHeld hb) (λhHeld=>?_);clear hK K hb
 try simp only [sb9]
 refine tk 12 ?_
 refine tk 13 ?_
 refine tk 14 ?_
 refine tk 15 ?_
 refine tk 17 ?_
 refine rc 16 (λK hK=>?_)
 go_simp
 go_at_call 89;(with_reducible refine(C4.out _ hBw).mono ?_);rintro e wa8 ⟨B6,m6,d6,rfl,hw6,hb⟩;have hBw:=zaa hBw hb;have hw4:=hw4.below hb;have hw5:=hw5.below hb;refine hK.out _ _ (Cs.below hHeld hb) (λhHeld=>?_);clear hK K hb
 try simp only [sb9]
 refine rc 18 (λK hK=>?_)
 go_simp
 go_at_call 89;(with_reducible refine(C5.out _ hBw).mono ?_);rintro e wa9 ⟨B7,m7,d7,rfl,hw7,hb⟩;have hBw:=zaa hBw hb;have hw4:=hw4.below hb;have hw5:=hw5.below hb;have hw6:=hw6.below hb;refine hK.out _ _ (Cs.below hHeld hb) (λhHeld=>?_);clear hK K hb
 try simp only [sb9]
 refine rc 19 (λK hK=>?_)
 go_simp
 go_at_call 118;(with_reducible refine(C6.out _ hBw _ _ _ hw6 _ _ _ hw7).mono ?_);rintro e wa10 ⟨rfl,hb⟩;have hBw:=zaa hBw hb;have hw4:=hw4.below hb;have hw5:=hw5.below hb;have hw6:=hw6.below hb;have hw7:=hw7.below hb;refine hK.out _ _ (Cs.below hHeld hb) (λhHeld=>?_);clear hK K hb
 try simp only [sb9]
 refine tk 20 ?_
 refine tk 21 ?_
 refine tk 22 ?_
 refine rdn ?_
 have hB:=zaa hB hBw
 have g1:=zac hBw g1
 have e1:=zac hBw e1
 have i1:=zac hBw i1
 have g3:=zac hBw g3
 have e3:=zac hBw e3
 have i3:=zac hBw i3
 clear hBw hHeld hw4 hw5 hw6 hw7 C0 C1 C2 C3 C4 C5 C6
 go_wp2
 go_ret
 exact⟨by first|rfl|simp,hB⟩
