/- What this claim leans on. -/
import Derived.Test.YtghpdeciaaagnaaGreatDoorIEAwake
import Derived.Laws.Append
namespace Go.Proofs.YtghpdeciaaagnaaGreatDoor
open Go Go.RowKit
open Go.ChangeShapes Go.WideShapes Go.ChangeAt Go.Deep
set_option maxHeartbeats 16000000
set_option linter.unusedVariables false
theorem zgF {H:Type}{enc:TypeId×Value->H}{P:Program}{W:World}{fuel:Nat}{t9 t0 t:TypeId}{f0 f1:Field}{v:Value}{x:DataW H×List MemPlace}
  (ht9:P.underlying t9=some (.slice t0)) (hC9:P.cellsOf t0=1) (ht:P.underlying t0=some (.slice t)) (hs:P.underlying t=some (.struct #[f0,f1])) (hf:(f0.offset,P.cellsOf f0.type,f1.offset,P.cellsOf f1.type)=(0,1,1,1)) (hC:P.cellsOf t=2) (h0:P.underlying f0.type=some (.int .i64)) (h1:P.underlying f1.type=some (.int .i64))
  (h:DataW.trod enc P W 0 (λ_=>true) true fuel t9 [v]=some x) (hb:Rows.uptoBulk x.1<=1048576):∃A n c R,v=.slice A n c/\zbf W A n c R:=by
 have go:∀A n c,[v]=[Value.slice A n c]->∃A n c R,v=.slice A n c/\zbf W A n c R:=λA n c e=>by
  simp only [List.cons.injEq,and_true] at e
  subst e
  obtain⟨R,hR⟩:=zkq ht9 hC9 ht hs hf hC h0 h1 (A:=A) (n:=n) (c:=c) (by simpa [Value.cells] using h) hb
  exact⟨A,n,c,R,rfl,hR⟩
 rcases open_slice ht9 h with⟨hcs,_⟩|⟨a,len,cap,m,k,D,Pl,hcs,_⟩
 ·exact go _ _ _ hcs
 ·exact go _ _ _ hcs
theorem arg_grid {H:Type}{enc:TypeId×Value->H}{P:Program}{W:World}{r:Reach}{b0:Nat}{t8 t9 t0 t:TypeId}{g0 g1 f0 f1:Field}{v:Value}{d:DataW H}{p:List MemPlace}
  (hs8:P.underlying t8=some (.struct #[g0,g1])) (hone:oneCellFields P #[g0,g1]=true) (hC8:P.cellsOf t8=2) (k0:P.underlying g0.type=some (.int .u8)) (ht9:P.underlying g1.type=some (.slice t0)) (hC9:P.cellsOf t0=1) (ht:P.underlying t0=some (.slice t))
  (hs:P.underlying t=some (.struct #[f0,f1])) (hf:(f0.offset,P.cellsOf f0.type,f1.offset,P.cellsOf f1.type)=(0,1,1,1)) (hC:P.cellsOf t=2) (h0:P.underlying f0.type=some (.int .i64)) (h1:P.underlying f1.type=some (.int .i64))
  (hv:Value.okWide P W r b0 t8 v) (h:DataW.Trod enc P W 0 (λ_=>true) true t8 v d p) (hb:Rows.uptoBulk d<=1048576):∃(z:Nat) (A:oA9) (n c:Nat) (R:Nat->oA9×Nat×Nat×List (Int×Int)),v=.agg #[.int .u8 (z:Int),.slice A n c]/\z<=255/\zbf W A n c R:=by
 obtain⟨v0,v1,y0,y1,n,rfl,rfl,rfl,e0,e1⟩:=Go.Joins.open_agg2 hs8 hone hC8 hv h
 obtain⟨z,hz,_,wz⟩:=DataW.trod_int k0 e0
 simp only [List.cons.injEq,and_true] at hz
 subst hz
 have bz:=bounds_u8 wz
 obtain⟨A,m,c,R,rfl,hR⟩:=zgF ht9 hC9 ht hs hf hC h0 h1 e1 (by simp only [Rows.uptoBulk,Rows.uptoBulkAll] at hb;omega)
 exact⟨z.toNat,A,m,c,R,by rw [Int.toNat_of_nonneg bz.1],by omega,hR⟩
open Go Go.RowKit
set_option maxHeartbeats 16000000
set_option maxRecDepth 100000
set_option linter.unusedVariables false
set_option linter.unusedSimpArgs false
theorem zaz.vals3 {w:World}{ad:Addr}{n c:Nat}{xs:List Rat}(h:zaz w (some ad) n c xs):∃vs:List Value,vs.length=n*3/\(∀j u,vs[j]?=some u->w.cell? (ad.add j)=some u)/\∀j,j<n*3->∃u,vs[j]?=some u:=by
 have each:∀i,i<n*3->∃u,w.cell? (ad.add i)=some u:=λi hi=>by
  have hq:i / 3<xs.length:=by rw [h.len];omega
  obtain⟨ad',b,B,m,d,F,u,v,e,_,h1,h2,h3,_⟩:=h.num (i / 3) _ (List.getElem?_eq_getElem hq)
  injection e with e
  subst e
  rcases (show i=i / 3*3\/i=i / 3*3+1\/i=i / 3*3+2 by omega) with e|e|e
  ·rw [e];exact⟨_,h1⟩
  ·rw [e];exact⟨_,h2⟩
  ·rw [e];exact⟨_,h3⟩
 refine⟨(List.range (n*3)).map λi=>(w.cell? (ad.add i)).getD undef,by simp,λj u hu=>?_,λj hj=>?_⟩
 ·have hj:j<n*3:=by
   have:=(List.getElem?_eq_some_iff.1 hu).1
   simpa using this
  obtain⟨u',h1⟩:=each j hj
  rw [List.getElem?_map,List.getElem?_range hj] at hu
  injection hu with hu
  dsimp only at hu
  rw [h1] at hu⊢
  rw [<-hu];rfl
 ·exact⟨_,by rw [List.getElem?_map,List.getElem?_range hj];rfl⟩
theorem zmm {w w1:World}{g n c:Nat}{t:TypeId}{cs:Array Value}{xs:List Rat}(hk:Blk w1 g t cs)(hl:xs.length=n)(hf:n<=c)(hm:c<=9223372036854775807)
  (h:∀i x,xs[i]?=some x->∃(b:Bool) (B:oA9) (m d:Nat) (F:oA9) (u v:Nat),cs[i*3]?=some (.bool b)/\cs[i*3+1]?=some (.slice B m d)/\cs[i*3+2]?=some (.slice F u v)/\zah w1 x b B m d F u v):zaz w1 (some ⟨g,0,none⟩) n c xs:=
 ⟨hl,hf,hm,λi x hi=>by
  obtain⟨b,B,m,d,F,u,v,h1,h2,h3,h4⟩:=h i x hi
  exact⟨_,b,B,m,d,F,u,v,rfl,hk.lt,by rw [zaP];exact(hk.cell _).trans h1,by rw [zaP];exact(hk.cell _).trans h2,by rw [zaP];exact(hk.cell _).trans h3,h4⟩⟩
theorem ziD {w:World}{p q:Addr}{m k d:Nat}{xs ys:List Rat}(h:zaz w (some p) m m xs)(hy:zaz w (some q) k d ys)(hk:0<k)(hmk:m+k<=1048576)(t ty:TypeId)(ht:Tryz.prog.underlying t=some (.slice 41)):
  ∃ c' cs,(Builtin.append_ #[t,t] ty #[.slice (some p) m m,.slice (some q) k d]).run Tryz.prog w = .ok (.slice (some ⟨w.heap.size,0,none⟩) (m + k) c') (w.drew.alloc (.cells cs 41)) ∧
   zaz (w.drew.alloc (.cells cs 41)) (some ⟨w.heap.size,0,none⟩) (m+k) c' (xs++ys)/\Below w.heap.size w (w.drew.alloc (.cells cs 41)):=by
 obtain⟨i0,hi0,hz0,hz1,hz2⟩:=info_parts zop
 obtain⟨os,o1,o2,o3⟩:=h.vals3
 obtain⟨ns,n1,n2,n3⟩:=hy.vals3
 have hr:=run_append_grow (P:=Tryz.prog) w t ty 41 i0 (.agg #[.bool false,.slice none 0 0,.slice none 0 0]) ht hi0 hz0 p m m os (by rw [hz1];exact o1) o2 q k d ns (by rw [hz1];exact n1) n2 (by omega) (by omega) (growslice_fits (by omega) (by rw [hz2];omega))
 have hge:=grownCap_ge w (m+k) m 41
 have hcm:=grownCap_le_maxLen w (m+k) m 41 (by unfold maxLen;omega)
 refine⟨_,_,hr,?_,?_⟩
 ·generalize Builtin.zeroCells (Value.agg #[.bool false,.slice none 0 0,.slice none 0 0]).cells (grownCap w (m+k) m 41 - (m+k))=zs at*
  obtain⟨t1,t2,-⟩:=zav w.drew 41 (os.toArray++ns.toArray++zs)
  have hB:Below w.heap.size w (w.drew.alloc (.cells (os.toArray++ns.toArray++zs) 41)):=zab (Below.refl w.heap.size w).drew t1
  have at_:∀j u,j<m*3->w.cell? (p.add j)=some u->(os.toArray++ns.toArray++zs)[j]?=some u:=λj u hj hu=>by
   obtain⟨u',hu'⟩:=o3 j hj
   have:=o2 j u' hu'
   rw [hu] at this
   injection this with this
   subst this
   rw [Array.getElem?_append_left (by simp;omega),Array.getElem?_append_left (by simp;omega),List.getElem?_toArray];exact hu'
  have at2:∀j u,j<k*3->w.cell? (q.add j)=some u->(os.toArray++ns.toArray++zs)[m*3+j]?=some u:=λj u hj hu=>by
   obtain⟨u',hu'⟩:=n3 j hj
   have:=n2 j u' hu'
   rw [hu] at this
   injection this with this
   subst this
   rw [Array.getElem?_append_left (by simp;omega),Array.getElem?_append_right (by simp;omega),List.getElem?_toArray]
   rw [show m*3+j - os.toArray.size=j by simp;omega];exact hu'
  refine zmm (w:=w) t2 (by rw [List.length_append,h.len,hy.len]) hge (by unfold maxLen at hcm;omega) λi x hi=>?_
  by_cases hlt:i<xs.length
  ·rw [List.getElem?_append_left hlt] at hi
   obtain⟨ad,b,B,m',d',F,u,v,e,_,h1,h2,h3,h4⟩:=h.num i x hi
   injection e with e
   subst e
   rw [h.len] at hlt
   exact⟨b,B,m',d',F,u,v,at_ _ _ (by omega) h1,at_ _ _ (by omega) h2,at_ _ _ (by omega) h3,zaf.below h4 hB⟩
  ·rw [List.getElem?_append_right (by omega)] at hi
   have hlt2:=(List.getElem?_eq_some_iff.1 hi).1
   obtain⟨ad,b,B,m',d',F,u,v,e,_,h1,h2,h3,h4⟩:=hy.num _ x hi
   injection e with e
   subst e
   rw [h.len] at hlt hi h1 h2 h3
   rw [hy.len,h.len] at hlt2
   refine⟨b,B,m',d',F,u,v,?_,?_,?_,zaf.below h4 hB⟩
   ·rw [show i*3=m*3+(i - m)*3 by omega];exact at2 _ _ (by omega) h1
   ·rw [show i*3+1=m*3+((i - m)*3+1) by omega];exact at2 _ _ (by omega) h2
   ·rw [show i*3+2=m*3+((i - m)*3+2) by omega];exact at2 _ _ (by omega) h3
 ·exact zab (Below.refl w.heap.size w).drew (zav w.drew 41 _).1
def FullV (n:Nat):RP Rat:=λw B m d L=>zaz w B m d L/\(m=n->d=n)
theorem zeE (n:Nat):zbW (FullV n) where
 len h:=h.1.len
 below h hb:=⟨h.1.keep hb,h.2⟩
 offS h hk hs ho:=⟨zhy zaf h.1 hk hs ho,h.2⟩
 nil w:=⟨zaI.nil w,λe=>e⟩
theorem zaC.wider {α:Type}{R R':RP α}{w:World}{t:TypeId}{g n:Nat}{Ls:List (List α)}(h:zaC R w t g n Ls)(hR:∀{B:oA9} {m d:Nat} {L:List α},R w B m d L->R' w B m d L):zaC R' w t g n Ls:=
 ⟨h.len,h.blk,λi L hi=>by obtain⟨B,d,h1,h2⟩:=h.num i L hi;exact⟨B,d,h1,hR h2⟩⟩
theorem zaz.rest {w:World}{ad:Addr}{n k c:Nat}{xs:List Rat}(h:zaz w (some ad) n c xs)(hk:k<=n):zaz w (some (ad.add (k*3))) (n - k) (c - k) (xs.drop k):=
 ⟨by rw [List.length_drop,h.len],by have:=h.fits;omega,by have:=h.most;omega,λi x hi=>by
  rw [List.getElem?_drop] at hi
  obtain⟨ad',b,B,m,d,F,u,v,e,h1,h2,h3,h4,h5⟩:=h.num _ x hi
  injection e with e
  subst e
  have ea:∀j,(ad.add (k*3)).add j=ad.add (k*3+j):=λj=>zdU _ _ _
  refine⟨_,b,B,m,d,F,u,v,rfl,by rw [zap];exact h1,?_,?_,?_,h5⟩
  ·rw [ea,show k*3+i*3=(k+i)*3 by omega];exact h2
  ·rw [ea,show k*3+(i*3+1)=(k+i)*3+1 by omega];exact h3
  ·rw [ea,show k*3+(i*3+2)=(k+i)*3+2 by omega];exact h4⟩
theorem zia {ops:Array Oper}{rest:List Oper}{o:Oper}{a:Act}{w:World}{Q:Exit->Act->World->Prop}(hgd:o.guard=none)(s x:Operand)(t:TypeId)
  (ho:o.op=.call {callee:=.builtin .append,args:=#[s,x],argTypes:=#[t,t]}) (ht:Tryz.prog.underlying t=some (.slice 41))
  (p q:Addr) (m k d:Nat) (xs ys:List Rat) (hs:a.eval s=.slice (some p) m m) (hx:a.eval x=.slice (some q) k d) (h:zaz w (some p) m m xs) (hy:zaz w (some q) k d ys) (hk:0<k) (hmk:m+k<=1048576)
  (hn:∀c' w',zaz w' (some ⟨w.heap.size,0,none⟩) (m+k) c' (xs++ys)->Below w.heap.size w w'->wpList Tryz.prog ops Q rest (a.put o.dst (.slice (some ⟨w.heap.size,0,none⟩) (m+k) c')) w'):
  wpList Tryz.prog ops Q (o::rest) a w:=by
 refine wpList_plain hgd λK hK=>?_
 obtain⟨c',cs,hr,h2,h3⟩:=ziD h hy hk hmk t o.type ht
 unfold Oper.wp execOp
 simp only [ho,resolve,invoke,builtin,Sem.run_bind,Sem.run_pure,Result.andThen_ok,List.map_toArray,List.map_cons,List.map_nil,hs,hx,hr]
 exact hK _ _ (hn c' _ h2 h3)
theorem zoy {R:RP Rat}(hR:zbW R)(n:Nat)(hn:n<=1099511627776):∃Z:Array Value,∀W:World,(Instr.makeSlice 26 (.int .i64 (n:Int)) (.int .i64 (n:Int))).run Tryz.prog W=.ok (.slice (some ⟨W.heap.size,0,none⟩) n n) (W.alloc (.cells Z 61))/\zaC R (W.alloc (.cells Z 61)) 61 W.heap.size n (List.replicate n []):=by
 obtain⟨i0,hi0,hz0,hz1,hz2⟩:=info_parts zel
 refine⟨madeCells zdj n,λW=>⟨?_,zaC.made hR W _ n⟩⟩
 have h:=zaW (P:=Tryz.prog) _ _ i0 _ Tryz.underlying26 hi0 hz0 .i64 .i64 n n (Nat.le_refl _) (by rw [hz2];omega) (by omega) W
 rw [hz1,Nat.mul_one] at h
 exact h
open Go Go.RowKit
set_option maxHeartbeats 16000000
set_option linter.unusedVariables false
theorem zhf {m K:Nat}{X:List (List Rat)}(h:zaN X m m)(hn:m<=64)(hW:zbS K X):SzQ (68+129*K) (zcZ m X):=by
 obtain⟨_,s2,_,_⟩:=zhw h hn hW
 have hr:SzQ (1+64*K) (zbo X):=by
  have:=zgg hW X.length (Nat.le_refl _)
  rw [List.take_length] at this
  exact(this.up (Nat.add_le_add_left (Nat.mul_le_mul_right _ (by rw [h.rows];exact hn)) _)).szq (by omega)
 unfold zcZ
 split
 ·exact SzQ.zero.up (by omega)
 ·exact(s2.div hr).up (by omega)
theorem zjt {n:Nat}{X:List (List Rat)}(h:zaN X n n)(hd:zaF n (atM X)≠0):zfs n n n X (zfr n X)=oneM n:=
 zaN.ext (zcV _ _ _ _ _) (zcq _ _ _) λr c hr hc=>by
  rw [zlN h hr hc,zkb h (λhl=>hd (zka h hl)) r hr c hc]
  unfold oneM
  rw [zfi hr hc];rfl
theorem zkP {n:Nat}{X:List (List Rat)}(h:zaN X n n)(hd:zaF n (atM X)≠0):zfs n n n (zfr n X) X=oneM n:=
 zaN.ext (zcV _ _ _ _ _) (zcq _ _ _) λr c hr hc=>by
  rw [zlN (zkO h) hr hc,inv_left (zkb h (λhl=>hd (zka h hl))) r hr c hc]
  unfold oneM
  rw [zfi hr hc];rfl
theorem zmG {m:Nat}{X Y:List (List Rat)}(h:zaN X m m)(k:zaN Y m m):zcZ m (zfs m m m X Y)=zcZ m X*zcZ m Y:=by
 rw [<-det_mul h k]
 congr 1
 exact zaN.ext (zcV _ _ _ _ _) (zcq _ _ _) λr c hr hc=>by
  rw [zlN h hr hc,zfi hr hc];rfl
theorem zlh {n:Nat}{X:List (List Rat)}(h:zaN X n n){t:Bool}(e:(!decide (zcZ n X=0))=t):decide ((zbA n X).ld.length<n)= !t:=by
 rw [<-e,Bool.not_not,zeZ h]
 exact decide_eq_decide.2 (zra h)
theorem zik {n:Nat}{X:List (List Rat)}(h:zaN X n n)(hn:n<=6)(z:zax 1 X):zbS 14 (zcc n X):=by
 have:=zbS.of_sz (znu z (Nat.le_refl 1) (n:=n)) (zds h)
 exact this.up (by omega)
theorem invM_sz {n:Nat}{X:List (List Rat)}(h:zaN X n n)(hn:n<=6)(z:zax 1 X):zax 1954 (zfr n X):=(zpP h (by omega) (zik h hn z)).1.up (by omega)
open Go Go.RowKit
set_option maxHeartbeats 16000000
set_option maxRecDepth 100000
set_option linter.unusedVariables false
set_option linter.unusedSimpArgs false
theorem zmd {w:World}{g n:Nat}{t:TypeId}(hk:Blk w g t (madeCells zdj n)):zaC (zaI zah) w t g n (List.replicate n []):=by
 refine⟨by simp,⟨_,hk,znM _,size_madeCells _ _⟩,λi x hi=>?_⟩
 have hlt:i<n:=by
  have:=(List.getElem?_eq_some_iff.1 hi).1
  simpa using this
 obtain rfl:[]=x:=by
  rw [List.getElem?_replicate,if_pos hlt] at hi
  injection hi
 refine⟨none,0,?_,zaI.nil _⟩
 rw [hk.cell,zbF _ _ _ hlt,show zdj.size=1 from rfl,Nat.mod_one]
 rfl
theorem zox (n:Nat)(hn:n<=1099511627776)(W:World):(Instr.makeSlice 26 (.int .i64 (n:Int)) (.int .i64 (n:Int))).run Tryz.prog W=.ok (.slice (some ⟨W.heap.size,0,none⟩) n n) (W.alloc (.cells (madeCells zdj n) 61)):=by
 obtain⟨i0,hi0,hz0,hz1,hz2⟩:=info_parts zel
 have h:=zaW (P:=Tryz.prog) _ _ i0 _ Tryz.underlying26 hi0 hz0 .i64 .i64 n n (Nat.le_refl _) (by rw [hz2];omega) (by omega) W
 rw [hz1,Nat.mul_one] at h
 exact h
section
variable {A B:oA9}{n c k k' d m K K':Nat}{MA MB:List (List Rat)}{w:World}
theorem mulM_get {r:Nat}(hr:r<n):(zfs n k m MA MB)[r]?=some (zdu (zcW k m MB) (MA.getD r [])):=by
 rw [zpi]
 exact zke _ hr
theorem ziI (hT:zai w)(hA:zaR w A n c k MA)(hB:zaR w B k d m MB)(z:zax K MA)(z':zax K' MB)(hK:K<=67108864:=by omega)(hK':K'<=67108864:=by omega)(hS:1+k*(K'+K+1)<=67108864:=by omega):
  Calls Tryz.prog 34 #[.agg #[.slice A n c,.int .i64 (k:Int)],.agg #[.slice B k d,.int .i64 (m:Int)]] w (zcU w n m (zfs n k m MA MB)):=by
 obtain⟨hn,hk⟩:=And.intro hA.hn hA.hm
 have hm:=hB.hm
 have e0:((k:Int) !=(k:Int))=false:=by simp
 have HR:=λW=>lh9 (zbd B k d (m:Int) W)
 have HRA:=λW=>lh9 (zbd A n c (k:Int) W)
 have HMA:=lh9 hA
 have HCOL:=lh9 (λW (hb:Below w.heap.size w W)=>znc (hB.keep hb))
 have HDOT:=lh9 (λW (Q V:oA9) (q e:Nat) (r:Nat) (hr9:r<n) (hb:Below w.heap.size w W) (hr:zaB (zaI zah) W Q m (zcW k m MB)) (hv:zaz W V k e (MA.getD r []))=>mat_dots (q:=q) (hT.on hb) hr (zlm k m MB).cols hv (z'.turn hB.dims) (z.row (i:=r) (by rw [hA.dims.rows];exact hr9)) hm hk hK' hK hS)
 have HLM:Hid ((zfs n k m MA MB).length=n):=zhC _ _ _
 have HGM:Hid (∀r,r<n->(zfs n k m MA MB)[r]?=some (zdu (zcW k m MB) (MA.getD r []))):=λr hr=>mulM_get hr
 have HLR:Hid (∀v,(zdu (zcW k m MB) v).length=m):=λv=>by rw [zkg];exact zhC _ _ _
 have HDM:=lh9 (zcV n k m MA MB)
 obtain⟨M,hM⟩:∃M,zfs n k m MA MB=M:=⟨_,rfl⟩
 rw [hM] at HLM HGM HDM⊢
 have hmk:=zox n (by omega)
 obtain⟨bx1,bx2,bx3,bx4,bz⟩:=zbL w 28 28 28 #[.slice A n c,.int .i64 (k:Int)] #[.slice B k d,.int .i64 (m:Int)] #[.slice none 0 0,.int .i64 0]
 obtain⟨p0,p1⟩:=bx2.c2
 obtain⟨q0,q1⟩:=bx3.c2
 have HB:=lh9 bx1
 have HK:=lh9 bx4
 have HKA:=lh9 bx2
 have HKB:=lh9 bx3
 have i0:(0:Int)<=(n:Int):=by omega
 clear hT hA hB z z' hM bx1 bx2 bx3 bx4 bz hS hK hK'
 go_enter Tryz.func34,Tryz.ntmps34
 go_wp2_with fail
 generalize ((w.alloc (.cells #[.slice A n c,.int .i64 (k:Int)] 28)).alloc (.cells #[.slice B k d,.int .i64 (m:Int)] 28)).alloc (.cells #[.slice none 0 0,.int .i64 0] 28)=W1 at*
 have hbd:=(Below.refl W1.heap.size W1).drew
 refine rg (csc p1 (csc q0 (csc q1 csn))) (λhHeld=>?_)
 clear p0 p1 q0 q1
 have HB:=lh9 (zab HB.out hbd)
 have HK:=lh9 (zaa hbd HK.out)
 have HKA:=lh9 (zaa hbd HKA.out)
 have HKB:=lh9 (zaa hbd HKB.out)
 clear hbd
 generalize W1.drew=D at*
 refine tk 0 ?_
 refine tk 1 ?_
 refine tk 2 ?_
 refine rc 3 (λKK hK9=>?_)
 go_simp
 refine(HR _).out.mono ?_
 rintro e w2 ⟨rfl,hb⟩
 refine hK9.out _ _ (Cs.below hHeld hb) (λhHeld=>?_)
 clear hK9 KK
 have HB2:=lh9 (zab HB.out hb)
 have HK2:=lh9 (zaa hb HK.out)
 have HKA2:=lh9 (zaa hb HKA.out)
 have HKB2:=lh9 (zaa hb HKB.out)
 clear hb HB HK HKA HKB
 refine tk 4 ?_
 refine rdn ?_
 clear hHeld
 go_upto_region 3 with fail
 go_cut [6,16,17,18,19,20,21] (λs6 s16 s17 s18 s19 s20 s21 wx=>∃g1 g2:Nat,s6=.pointer (some ⟨g2,0,none⟩)/\g1≠g2/\w2.heap.size<=g1/\w2.heap.size<=g2/\Blk wx g1 61 (madeCells zdj n)/\Blk wx g2 28 #[.slice (some ⟨g1,0,none⟩) n n,.int .i64 (m:Int)]/\Below w2.heap.size w2 wx)
 case first=>
  obtain⟨p0,p1⟩:=HKA2.out.c2
  obtain⟨q0,q1⟩:=HKB2.out.c2
  have hl1:=HKA2.out.lt
  have hl2:=HKB2.out.lt
  have hbd:=(Below.refl w2.heap.size w2).drew
  refine rg (csc p0 (csc p1 (csc q1 csn))) (λhHeld=>?_)
  clear p0 p1 q0 q1 HKA2 HKB2 HK2 HB2 HMA HCOL HDOT
  generalize w2.drew=D2 at*
  refine tk 0 ?_
  refine tk 3 ?_
  refine tk 4 ?_
  refine rcb 1 6 (λKK hK9=>?_) (λKK hK9=>?_)
  ·go_simp
   refine(HRA _).out.mono ?_
   rintro e w4 ⟨rfl,hb⟩
   refine hK9.out _ _ (Cs.below hHeld hb) (λhHeld=>?_)
   clear hK9 KK
   have hbd:=zab hbd hb
   clear hb
   refine rcb 2 6 (λKK hK9=>?_) (λKK hK9=>?_)
   ·go_simp
    obtain⟨t1,t2,t3⟩:=zav w4 61 (madeCells zdj n)
    refine hK9.out _ _ (Cs.below hHeld t1) (λhHeld=>?_)
    clear hK9 KK
    have hg1:w2.heap.size<=w4.heap.size:=hbd.size
    have hbd:=zab hbd t1
    generalize w4.alloc (.cells (madeCells zdj n) 61)=W5 at*
    generalize w4.heap.size=g1 at*
    refine tk 5 ?_
    refine rc 6 (λKK hK9=>?_)
    go_simp
    obtain⟨u1,u2,u3⟩:=zav W5 28 #[.slice none 0 0,.int .i64 0]
    refine hK9.out _ _ (Cs.below hHeld u1) (λhHeld=>?_)
    clear hK9 KK
    have hg2:w2.heap.size<=W5.heap.size:=hbd.size
    have hne:g1≠W5.heap.size:=by omega
    have hbd:=zab hbd u1
    have t4:=zaa u1 t2
    generalize W5.alloc (.cells #[.slice none 0 0,.int .i64 0] 28)=W6 at*
    generalize W5.heap.size=g2 at*
    obtain⟨sc0,sf0,sc1,sf1⟩:=st2 u2 (.slice (some ⟨g1,0,none⟩) n n)
    refine rc 7 (λKK hK9=>?_)
    go_simp
    refine hK9.out _ _ (Cs.far hHeld (zgM _ _ _ _) ⟨by show w.heap.size≠g2;omega,by show w.heap.size≠g2;omega,by show w.heap.size+1≠g2;omega,trivial⟩) (λhHeld=>?_)
    clear hK9 KK
    refine rdn ?_
    clear hHeld sc0 sf0 sc1 sf1
    go_wp2
    go_meet
    exact⟨g1,g2,rfl,hne,hg1,hg2,Blk.far (p:=⟨g2,1,none⟩) (Blk.far (p:=⟨g2,0,none⟩) t4 hne _) hne _,sn2 u2 _ _,bl2 _ _ hg2 hbd⟩
   ·go_simp
    obtain⟨u1,u2,u3⟩:=zav w4 28 #[.slice none 0 0,.int .i64 0]
    refine hK9.out _ _ (Cs.below hHeld u1) (λhHeld=>?_)
    clear hK9 KK
    have hg2:w2.heap.size<=w4.heap.size:=hbd.size
    have hbd:=zab hbd u1
    generalize w4.alloc (.cells #[.slice none 0 0,.int .i64 0] 28)=W5 at*
    generalize w4.heap.size=g2 at*
    refine rc 2 (λKK hK9=>?_)
    go_simp
    obtain⟨t1,t2,t3⟩:=zav W5 61 (madeCells zdj n)
    refine hK9.out _ _ (Cs.below hHeld t1) (λhHeld=>?_)
    clear hK9 KK
    have hg1:w2.heap.size<=W5.heap.size:=hbd.size
    have hne:W5.heap.size≠g2:=by omega
    have hbd:=zab hbd t1
    have u4:=zaa t1 u2
    generalize W5.alloc (.cells (madeCells zdj n) 61)=W6 at*
    generalize W5.heap.size=g1 at*
    refine tk 5 ?_
    obtain⟨sc0,sf0,sc1,sf1⟩:=st2 u4 (.slice (some ⟨g1,0,none⟩) n n)
    refine rc 7 (λKK hK9=>?_)
    go_simp
    refine hK9.out _ _ (Cs.far hHeld (zgM _ _ _ _) ⟨by show w.heap.size≠g2;omega,by show w.heap.size≠g2;omega,by show w.heap.size+1≠g2;omega,trivial⟩) (λhHeld=>?_)
    clear hK9 KK
    refine rdn ?_
    clear hHeld sc0 sf0 sc1 sf1
    go_wp2
    go_meet
    exact⟨g1,g2,rfl,hne,hg1,hg2,Blk.far (p:=⟨g2,1,none⟩) (Blk.far (p:=⟨g2,0,none⟩) t2 hne _) hne _,sn2 u4 _ _,bl2 _ _ hg2 hbd⟩
  ·go_simp
   obtain⟨u1,u2,u3⟩:=zav D2 28 #[.slice none 0 0,.int .i64 0]
   refine hK9.out _ _ (Cs.below hHeld u1) (λhHeld=>?_)
   clear hK9 KK
   have hg2:w2.heap.size<=D2.heap.size:=hbd.size
   have hbd:=zab hbd u1
   generalize D2.alloc (.cells #[.slice none 0 0,.int .i64 0] 28)=W4 at*
   generalize D2.heap.size=g2 at*
   refine rc 1 (λKK hK9=>?_)
   go_simp
   refine(HRA _).out.mono ?_
   rintro e W5 ⟨rfl,hb⟩
   refine hK9.out _ _ (Cs.below hHeld hb) (λhHeld=>?_)
   clear hK9 KK
   have hbd:=zab hbd hb
   have u2:=zaa hb u2
   have u3:=Nat.le_trans u3 hb.size
   clear hb
   refine rc 2 (λKK hK9=>?_)
   go_simp
   obtain⟨t1,t2,t3⟩:=zav W5 61 (madeCells zdj n)
   refine hK9.out _ _ (Cs.below hHeld t1) (λhHeld=>?_)
   clear hK9 KK
   have hg1:w2.heap.size<=W5.heap.size:=hbd.size
   have hne:W5.heap.size≠g2:=by omega
   have hbd:=zab hbd t1
   have u4:=zaa t1 u2
   generalize W5.alloc (.cells (madeCells zdj n) 61)=W6 at*
   generalize W5.heap.size=g1 at*
   refine tk 5 ?_
   obtain⟨sc0,sf0,sc1,sf1⟩:=st2 u4 (.slice (some ⟨g1,0,none⟩) n n)
   refine rc 7 (λKK hK9=>?_)
   go_simp
   refine hK9.out _ _ (Cs.far hHeld (zgM _ _ _ _) ⟨by show w.heap.size≠g2;omega,by show w.heap.size≠g2;omega,by show w.heap.size+1≠g2;omega,trivial⟩) (λhHeld=>?_)
   clear hK9 KK
   refine rdn ?_
   clear hHeld sc0 sf0 sc1 sf1
   go_wp2
   go_meet
   exact⟨g1,g2,rfl,hne,hg1,hg2,Blk.far (p:=⟨g2,1,none⟩) (Blk.far (p:=⟨g2,0,none⟩) t2 hne _) hne _,sn2 u4 _ _,bl2 _ _ hg2 hbd⟩
 case rest=>
  obtain⟨g1,g2,rfl,hne,hg1,hg2,hk1,hk2,hb⟩:=hcut
  have hsz:=HK2.out.lt
  have hl7:=hk1.lt
  have hwr:w.heap.size<=w2.heap.size:=HB2.out.size
  have HB3:=lh9 (zab HB2.out hb)
  have HK3:=lh9 (zaa hb HK2.out)
  have HKA3:=lh9 (zaa hb HKA2.out)
  obtain⟨p0,p1⟩:=HKA3.out.c2
  obtain⟨q0,q1⟩:=(zaa hb HKB2.out).c2
  have HR1:=lh9 hk1
  have HM2:=lh9 hk2
  clear hb hk1 hk2 HB2 HK2 HKA2 HKB2 HR HRA
  go_wp2_with fail
  refine(HCOL.out _ HB3.out).mono ?_
  rintro e w5 ⟨g5,rfl,hg5,ho5,hb⟩
  have HCR:=lh9 ho5.rows
  have hrow:zaC (zaI zah) w5 61 g1 n (zbR [] M n 0):=by rw [zbh];exact zmd (zaa hb HR1.out)
  have hB:=zab HB3.out hb
  have hk0:=zaa hb HK3.out
  have hk2:=zaa hb HM2.out
  have hBw:=Below.refl w5.heap.size w5
  obtain⟨p0,p1⟩:=(zaa hb HKA3.out).c2
  have hl5:=hrow.lt
  have hl6:=hk2.lt
  clear hb ho5 q0 q1 HB3 HK3 HKA3 HR1 HM2
  go_wp2_with fail
  clear p0 p1
  go_loopg [27] (n+1) (λg ix wr=>∃(r:Nat),r<=n/\n<g+r/\ix=.int .i64 r/\zaC (zaI zah) wr 61 g1 n (zbR [] M n r)/\zaB (zaI zah) wr (some ⟨g5,0,none⟩) m (zcW k m MB)/\Below w.heap.size w wr/\Blk wr (w.heap.size+1+1) 28 #[.slice none 0 0,.int .i64 0]/\Blk wr g2 28 #[.slice (some ⟨g1,0,none⟩) n n,.int .i64 (m:Int)])
  case atStart=>exact⟨0,Nat.zero_le _,by omega,rfl,hrow,HCR.out,hB,hk0,hk2⟩
  case round=>
   clear hrow hB hk0 hk2 hBw HCR
   obtain⟨r,hrn,hg,rfl,hrow,hcr,hB,hk0,hk2⟩:=hrel
   by_cases hlt:r<n
   ·obtain⟨ad,Bq,dq,rfl,-,hc,hv⟩:=HMA.out.row hB hlt
    have hd1:decide ((r:Int)<(n:Int))=true:=decide_eq_true (by omega)
    have i2:(0:Int)<=(r:Int):=by omega
    have i3:(r:Int)<(n:Int):=by omega
    obtain⟨p0,p1⟩:=hk2.c2
    have hbd:=(Below.refl wr.heap.size wr).drew
    have HROW:=lh9 (hrow.below (zam zaf) hbd)
    have HCR:=lh9 (hcr.below (zam zaf) hbd)
    have HV:=lh9 (zaz.keep hv hbd)
    have HB1:=lh9 (zab hB hbd)
    have HK0:=lh9 (zaa hbd hk0)
    have HK2:=lh9 (zaa hbd hk2)
    have HGR:=lh9 (HGM.out r hlt)
    clear hrow hcr hv hB hk0 hk2 hbd
    go_wp2_with fail
    refine rg (csc p0 csn) (λhHeld=>?_)
    clear p0 p1 hc
    generalize wr.drew=D2 at*
    refine tk 0 ?_
    refine tk 1 ?_
    refine tk 2 ?_
    refine tk 3 ?_
    refine tk 4 ?_
    refine rc 5 (λKK hK9=>?_)
    go_simp
    (with_reducible refine(HDOT.out _ _ _ _ _ r hlt HB1.out HCR.out HV.out).mono ?_)
    rintro e w7 ⟨g7,rfl,hg7,ho7,hb⟩
    refine hK9.out _ _ (Cs.below hHeld hb) (λhHeld=>?_)
    clear hK9 KK
    have hr5:=HROW.out.below (zam zaf) hb
    have hr6:=zaC.set_ (zam zaf) hr5 hlt (zaJ ho7) (HLR.out _)
    rw [zbt [] M n r HLM.out hlt _ HGR.out] at hr6
    obtain⟨q0,sc0,sf0⟩:=hr5.ready hlt
    have hoff:zbl g1 w7 (w7.setCell ⟨g1,r,none⟩ (.slice (some ⟨g7,0,none⟩) m m)):=zbl.of_far ((zbj.refl g1 w7).set_ r _)
    have hcr7:=HCR.out.below (zam zaf) hb
    have hsl:∃cs,Blk w7 g1 61 cs/\∀u ∈ cs.toList,zcr u:=by obtain⟨cs,h1,h2,_⟩:=hr5.blk;exact⟨cs,h1,h2⟩
    have HR6:=lh9 hr6
    have HCR6:Hid (zaB (zaI zah) (w7.setCell ⟨g1,r,none⟩ (.slice (some ⟨g7,0,none⟩) m m)) (some ⟨g5,0,none⟩) m (zcW k m MB)):=by
     obtain⟨cs,h1,h2⟩:=hsl
     exact hcr7.off (λad e=>by injection e with e;subst e;show g5≠g1;omega) hoff (λh3=>zhy zaf h3 h1 h2 hoff)
    have HB6:=lh9 (zae (p:=⟨g1,r,none⟩) (.slice (some ⟨g7,0,none⟩) m m) (show w.heap.size<=g1 by omega) (zab HB1.out hb))
    have HK06:=lh9 (Blk.far (p:=⟨g1,r,none⟩) (zaa hb HK0.out) (by show w.heap.size+1+1≠g1;omega) (.slice (some ⟨g7,0,none⟩) m m))
    have HK26:=lh9 (Blk.far (p:=⟨g1,r,none⟩) (zaa hb HK2.out) (by show g2≠g1;omega) (.slice (some ⟨g7,0,none⟩) m m))
    clear hb hr5 hr6 ho7 HROW HCR HB1 HK0 HK2 HV hcr7 hsl hoff
    refine tk 6 ?_
    refine rc 7 (λKK hK9=>?_)
    go_simp
    refine hK9.out _ _ ?_ (λhHeld=>?_)
    ·refine Cs.far hHeld ((zbj.refl g1 _).set_ r _) ⟨?_,trivial⟩
     show g2≠g1
     omega
    clear hK9 KK
    refine rdn ?_
    clear hHeld sc0 sf0
    go_wp2
    go_roundg (n - r)
    case measure=>omega
    case rel=>exact⟨r+1,by omega,by omega,by go_num,HR6.out,HCR6.out,HB6.out,HK06.out,HK26.out⟩
   ·have hr:r=n:=by omega
    subst hr
    have hd1:decide ((r:Int)<(r:Int))=false:=by simp
    have HM:=lh9 (zhp (zbs [] M r HLM.out▸hrow) HDM.out hn hm)
    obtain⟨p0,p1⟩:=hk2.c2
    obtain⟨sc0,sf0,sc1,sf1⟩:=st2 hk0 (.slice (some ⟨g1,0,none⟩) r r)
    obtain⟨r0,r1⟩:=(sn2 hk0 (.slice (some ⟨g1,0,none⟩) r r) (.int .i64 (m:Int))).c2
    have HG:=lh9 (gmb2 HM.out (λad e=>by injection e with e;subst e;show w.heap.size+1+1<g1;omega) hk0 hB (by omega))
    clear hrow hcr hB hk0 hk2
    go_wp2
    refine bodyPost_ret (v:=.tuple #[.agg #[.slice (some ⟨g1,0,none⟩) r r,.int .i64 (m:Int)],.bool true]) (by simp [results,Tryz.results34,go_sem,r0,r1]) rfl ?_
    exact HG.out
end
