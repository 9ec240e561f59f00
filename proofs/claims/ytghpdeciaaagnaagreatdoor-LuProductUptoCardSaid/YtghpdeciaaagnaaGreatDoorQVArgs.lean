/- What this claim leans on. -/
import Derived.Test.YtghpdeciaaagnaaGreatDoorQBunZ
import Derived.Test.YtghpdeciaaagnaaGreatDoorQBunY
namespace Go.Proofs.YtghpdeciaaagnaaGreatDoor
open Go Go.RowKit Go.Proofs.Tryz
open Go.ChangeShapes Go.WideShapes Go.ChangeAt Go.Deep
set_option maxHeartbeats 16000000
set_option linter.unusedVariables false
def zcK (z:Int):Prop:=-9223372036854775808<=z/\z<=9223372036854775807
theorem zog {H:Type}{b:TypeId×Value->H}{P:Program}{W:World}{a:Nat}{t:TypeId}{f0 f1:Field}{c0 c1:Value}{x:DataW H×List MemPlace}
  (hs:P.underlying t=some (.struct #[f0,f1])) (hf:(f0.offset,P.cellsOf f0.type,f1.offset,P.cellsOf f1.type)=(0,1,1,1)) (h0:P.underlying f0.type=some (.int .i64)) (h1:P.underlying f1.type=some (.int .i64))
  (h:DataW.trod b P W 0 (λ_=>true) true a t [c0,c1]=some x):∃p q:Int,c0=.int .i64 p/\c1=.int .i64 q/\zcK p/\zcK q:=by
 simp only [Prod.mk.injEq] at hf;obtain⟨y0,y1,n,rfl,_,k0,k1⟩:=trod_struct2 hs h;rw [hf.1,hf.2.1] at k0;rw [hf.2.2.1,hf.2.2.2] at k1;simp only [List.drop_zero,List.take_succ_cons,List.take_zero,List.drop_succ_cons] at k0 k1;obtain⟨p,hp,_,wp⟩:=DataW.trod_int h0 k0;obtain⟨q,hq,_,wq⟩:=DataW.trod_int h1 k1;simp only [List.cons.injEq,and_true] at hp hq;have bp:=bounds_i64 wp;have bq:=bounds_i64 wq;exact⟨p,q,hp,hq,⟨om9,om9⟩,⟨om9,om9⟩⟩
structure zbs (W:World)(A:oA9)(n c:Nat)(L:List (Int×Int)):Prop where
 len:L.length=n
 fits:n<=c
 small:c<=1048576
 ints:∀q ∈ L,zcK q.1/\zcK q.2
 row:∀r q,L[r]?=some q->∃ad,A=some ad/\ad.block<W.heap.size/\W.cell? (ad.add (r*2))=some (.int .i64 q.1)/\W.cell? (ad.add (r*2+1))=some (.int .i64 q.2)
theorem zbs.below {W W':World}{A:oA9}{n c:Nat}{L:List (Int×Int)}(h:zbs W A n c L)(hb:Below W.heap.size W W'):zbs W' A n c L:=
 ⟨h.len,h.fits,h.small,h.ints,λr q hr=>by
  obtain⟨ad,e,h1,h2,h3⟩:=h.row r q hr;exact⟨ad,e,Nat.lt_of_lt_of_le h1 hb.size,(hb.cell (by rw [zah];exact h1)).trans h2,(hb.cell (by rw [zah];exact h1)).trans h3⟩⟩
theorem zqc {H:Type}{u:TypeId×Value->H}{P:Program}{W:World}{d:Nat}{t0 t:TypeId}{f0 f1:Field}{A:oA9}{n c:Nat}{x:DataW H×List MemPlace}
  (ht:P.underlying t0=some (.slice t)) (hs:P.underlying t=some (.struct #[f0,f1])) (hf:(f0.offset,P.cellsOf f0.type,f1.offset,P.cellsOf f1.type)=(0,1,1,1)) (hC:P.cellsOf t=2) (h0:P.underlying f0.type=some (.int .i64)) (h1:P.underlying f1.type=some (.int .i64))
  (h:DataW.trod u P W 0 (λ_=>true) true d t0 (Value.slice A n c).cells.toList=some x) (hb:Rows.uptoBulk x.1<=1048576):∃L,zbs W A n c L:=by
 rcases open_slice ht h with⟨hcs,_⟩|⟨a,len,cap,m,k,D,Pl,hcs,_,hl,hm,hmm,hx,hi⟩
 ·simp [Value.cells] at hcs;obtain⟨rfl,rfl,rfl⟩:=hcs;exact⟨[],rfl,Nat.le_refl _,om9,λq hq=>(by cases hq),λr q hr=>by simp at hr⟩
 ·simp [Value.cells] at hcs;obtain⟨rfl,rfl,rfl⟩:=hcs;rw [if_pos rfl] at hmm;rw [hmm] at hx hi;subst hx;have y:=UA.slice_le (H:=H) ((List.range n).map D) ((List.range (c - n)).map λj=>D (n+j));have hb':Rows.uptoBulk (DataW.slice (H:=H) ((List.range n).map D) ((List.range (c - n)).map λj=>D (n+j)))<=1048576:=hb;have v:c<=1048576:=by
   simp only [List.length_map,List.length_range] at y;omega
  have b:∀r,r<n->∃q:Int×Int,W.cell? (a.add (r*2))=some (.int .i64 q.1)/\W.cell? (a.add (r*2+1))=some (.int .i64 q.2)/\zcK q.1/\zcK q.2:=λr hr=>by
   obtain⟨cs,i,z⟩:=hi r om9;rw [hC] at i;obtain⟨_,o,g⟩:=World.cells?_some i;obtain⟨c0,c1,rfl⟩:∃c0 c1,cs=[c0,c1]:=by
    match cs,o with
    |[c0,c1],_=>exact⟨c0,c1,rfl⟩
   obtain⟨p,q,rfl,rfl,hp,hq⟩:=zog (x:=(D r,Pl r)) hs hf h0 h1 z;have h0:=g 0 de9;have h1:=g 1 de9;rw [Go.Deep.add_add] at h0 h1;exact⟨(p,q),h0,h1,hp,hq⟩
  obtain ⟨f,l⟩ : ∃ f : Nat → Int × Int,∀ r,r < n → W.cell? (a.add (r * 2)) = some (.int .i64 (f r).1) ∧ W.cell? (a.add (r * 2 + 1)) = some (.int .i64 (f r).2) ∧ zcK (f r).1 ∧ zcK (f r).2 :=
   ⟨λr=>if hr:r<n then(b r hr).choose else(0,0),λr hr=>by simp only [dif_pos hr];exact(b r hr).choose_spec⟩
  refine⟨(List.range n).map f,si9,hl,v,λq hq=>?_,λr q hr=>?_⟩
  ·obtain⟨r,hr,rfl⟩:=List.mem_map.1 hq;exact(l r (List.mem_range.1 hr)).2.2
  ·have s:r<n:=by
    have:=(List.getElem?_eq_some_iff.1 hr).1;simpa using this
   obtain rfl:f r=q:=by
    rw [List.getElem?_map,List.getElem?_range s] at hr;simpa using hr
   obtain⟨c0,c1,_⟩:=l r s;refine⟨a,rfl,?_,c0,c1⟩;have:=World.block_lt_of_cell? W _ c0;rw [zah] at this;exact this
theorem zja {H:Type}{d:TypeId×Value->H}{P:Program}{W:World}{b:Nat}{t0 t:TypeId}{f0 f1:Field}{v:Value}{x:DataW H×List MemPlace}
  (ht:P.underlying t0=some (.slice t)) (hs:P.underlying t=some (.struct #[f0,f1])) (hf:(f0.offset,P.cellsOf f0.type,f1.offset,P.cellsOf f1.type)=(0,1,1,1)) (hC:P.cellsOf t=2) (h0:P.underlying f0.type=some (.int .i64)) (h1:P.underlying f1.type=some (.int .i64))
  (h:DataW.trod d P W 0 (λ_=>true) true b t0 [v]=some x) (hb:Rows.uptoBulk x.1<=1048576):∃A n c L,v=.slice A n c/\zbs W A n c L:=by
 have go:∀A n c,[v]=[Value.slice A n c]->∃A n c L,v=.slice A n c/\zbs W A n c L:=λA n c e=>by
  simp only [List.cons.injEq,and_true] at e;subst e;obtain⟨L,hL⟩:=zqc ht hs hf hC h0 h1 (A:=A) (n:=n) (c:=c) (by simpa [Value.cells] using h) hb;exact⟨A,n,c,L,rfl,hL⟩
 rcases open_slice ht h with⟨hcs,_⟩|⟨a,len,cap,m,k,D,Pl,hcs,_⟩
 ·exact go _ _ _ hcs
 ·exact go _ _ _ hcs
structure zbc (W:World)(A:oA9)(n c:Nat)(R:Nat->oA9×Nat×Nat×List (Int×Int)):Prop where
 fits:n<=c
 small:c<=1048576
 row:∀r,r<n->∃ad,A=some ad/\ad.block<W.heap.size/\W.cell? (ad.add r)=some (.slice (R r).1 (R r).2.1 (R r).2.2.1)/\zbs W (R r).1 (R r).2.1 (R r).2.2.1 (R r).2.2.2
theorem zkb {H:Type}{i:TypeId×Value->H}{P:Program}{W:World}{d:Nat}{t9 t0 t:TypeId}{f0 f1:Field}{A:oA9}{n c:Nat}{x:DataW H×List MemPlace}
  (z:P.underlying t9=some (.slice t0)) (l:P.cellsOf t0=1) (ht:P.underlying t0=some (.slice t)) (hs:P.underlying t=some (.struct #[f0,f1])) (hf:(f0.offset,P.cellsOf f0.type,f1.offset,P.cellsOf f1.type)=(0,1,1,1)) (hC:P.cellsOf t=2) (h0:P.underlying f0.type=some (.int .i64)) (h1:P.underlying f1.type=some (.int .i64))
  (h:DataW.trod i P W 0 (λ_=>true) true d t9 (Value.slice A n c).cells.toList=some x) (hb:Rows.uptoBulk x.1<=1048576):∃R,zbc W A n c R:=by
 rcases open_slice z h with⟨hcs,_⟩|⟨a,len,cap,m,k,D,Pl,hcs,_,hl,hm,hmm,hx,hi⟩
 ·simp [Value.cells] at hcs;obtain⟨rfl,rfl,rfl⟩:=hcs;exact⟨λ_=>(none,0,0,[]),Nat.le_refl _,om9,λr hr=>by omega⟩
 ·simp [Value.cells] at hcs;obtain⟨rfl,rfl,rfl⟩:=hcs;rw [if_pos rfl] at hmm;rw [hmm] at hx hi;subst hx;have y:=UA.slice_le (H:=H) ((List.range n).map D) ((List.range (c - n)).map λj=>D (n+j));have s:Rows.uptoBulk (DataW.slice (H:=H) ((List.range n).map D) ((List.range (c - n)).map λj=>D (n+j)))<=1048576:=hb;have u:c<=1048576:=by
   simp only [List.length_map,List.length_range] at y;omega
  have b:∀r,r<n->∃q:oA9×Nat×Nat×List (Int×Int),W.cell? (a.add r)=some (.slice q.1 q.2.1 q.2.2.1)/\zbs W q.1 q.2.1 q.2.2.1 q.2.2.2:=λr hr=>by
   obtain⟨cs,f,B⟩:=hi r om9;rw [l] at f;obtain⟨_,g,o⟩:=World.cells?_some f;obtain⟨c0,rfl⟩:∃c0,cs=[c0]:=by
    match cs,g with
    |[c0],_=>exact⟨c0,rfl⟩
   have hD:Rows.uptoBulk (D r)<=1048576:=by
    have v:D r ∈(List.range n).map D:=List.mem_map.2 ⟨r,List.mem_range.2 hr,rfl⟩;have hm2:=UA.mem_le v;simp only [Rows.uptoBulk] at s;omega
   obtain⟨A',n',c',L,rfl,hL⟩:=zja (x:=(D r,Pl r)) ht hs hf hC h0 h1 B hD;have h0:=o 0 de9;rw [Go.Deep.add_add,Nat.mul_one,Nat.add_zero] at h0;exact⟨(A',n',c',L),h0,hL⟩
  refine⟨λr=>if hr:r<n then(b r hr).choose else(none,0,0,[]),hl,u,λr hr=>⟨a,rfl,?_,?_⟩⟩
  ·have:=World.block_lt_of_cell? W _ (b r hr).choose_spec.1;rw [zah] at this;exact this
  ·simp only [dif_pos hr];exact(b r hr).choose_spec
theorem zbs.take {W:World}{A:oA9}{n c N:Nat}{L:List (Int×Int)}(h:zbs W A n c L)(hN:N<=n):zbs W A N c (L.take N):=by
 have hl:=h.len;have hf:=h.fits;refine⟨by rw [List.length_take];omega,om9,h.small,λq hq=>h.ints q (List.mem_of_mem_take hq),λr q hr=>?_⟩;rw [List.getElem?_take] at hr
 split at hr
 ·exact h.row r q hr
 ·cases hr
open Go Go.RowKit Go.Proofs.Tryz
set_option maxHeartbeats 16000000
set_option linter.unusedVariables false
structure Alt (n:Nat)(F:(Nat->Nat->Rat)->Rat):Prop where
 congr:∀M N:Nat->Nat->Rat,(∀i,i<n->∀j,j<n->M i j=N i j)->F M=F N
 lin:∀(M:Nat->Nat->Rat) (k:Nat),k<n->∀(a b:Rat) (u v:Nat->Rat),F (zaP M k λi=>a*u i+b*v i)=a*F (zaP M k u)+b*F (zaP M k v)
 same:∀(M:Nat->Nat->Rat) (k l:Nat),k<n->l<n->k≠l->(∀i,i<n->M i k=M i l)->F M=0
theorem Alt.det_ (n:Nat):Alt n (zaJ n):=⟨λM N h=>zbd h,λM k hk a b u v=>zdE M hk a b u v,λM k l hk hl c h=>by
 rw [zbd (N:=zaP M k λi=>M i l) λi hi j _=>?_]
 ·exact zei hk hl c
 ·by_cases e:j=k
  ·rw [e,zbw];exact h i hi
  ·rw [zbC _ e]⟩
theorem zia {M:Nat->Nat->Rat}{k l:Nat}(h:k≠l)(u v:Nat->Rat):zaP (zaP M k u) l v=zaP (zaP M l v) k u:=by
 funext i j
 unfold zaP;by_cases e:j=l
 ·rw [if_pos e,if_neg om9,if_pos e]
 ·rw [if_neg e,if_neg e]
theorem Alt.swap {n:Nat}{F:(Nat->Nat->Rat)->Rat}(h:Alt n F){M:Nat->Nat->Rat}{k l:Nat}(hk:k<n)(hl:l<n)(c:k≠l)(u v:Nat->Rat):F (zaP (zaP M k u) l v)= -F (zaP (zaP M k v) l u):=by
 have same:∀w:Nat->Rat,F (zaP (zaP M k w) l w)=0:=λw=>h.same _ k l hk hl c λi _=>by
  rw [zbw,zbC _ c,zbw]
 have e1:∀a b x y:Nat->Rat,F (zaP (zaP M k a) l λi=>1*x i+1*y i)=1*F (zaP (zaP M k a) l x)+1*F (zaP (zaP M k a) l y):=λa b x y=>h.lin _ l hl 1 1 x y;have e2:∀b x y:Nat->Rat,F (zaP (zaP M k λi=>1*x i+1*y i) l b)=1*F (zaP (zaP M k x) l b)+1*F (zaP (zaP M k y) l b):=λb x y=>by
  rw [zia c,zia c,zia c];exact h.lin _ k hk 1 1 x y
 have h1:=same λi=>1*u i+1*v i;rw [e1 _ u,e2,e2,same u,same v] at h1
 grind
theorem Alt.sum {n:Nat}{F:(Nat->Nat->Rat)->Rat}(h:Alt n F)(M:Nat->Nat->Rat){k:Nat}(hk:k<n)(f:Nat->Rat)(u:Nat->Nat->Rat):∀q,F (zaP M k λi=>zav q λl=>f l*u l i)=zav q λl=>f l*F (zaP M k (u l))
 |0=>by
   have e:=h.lin M k hk 0 0 (λ_=>0) (λ_=>0);have e2:(zaP M k λi=>zav 0 λl=>f l*u l i)=zaP M k λi=>0*(λ_:Nat=>(0:Rat)) i+0*(λ_:Nat=>(0:Rat)) i:=by
    congr 1;funext i;show(0:Rat)=0*0+0*0;grind
   rw [e2,e];show _=(0:Rat);grind
 |q+1=>by
   have e2:(zaP M k λi=>zav (q+1) λl=>f l*u l i)=zaP M k λi=>1*(λi=>zav q λl=>f l*u l i) i+f q*u q i:=by
    congr 1;funext i;rw [zaD];grind
   rw [e2,h.lin M k hk,h.sum M hk f u q,zaD,Rat.one_mul]
theorem zkH:∀{m:Nat} {L:List Nat},L.Nodup->(∀x ∈ L,x<m)->L.length<=m
 |0,L,_,h=>by
   cases L with
   |nil=>exact Nat.le_refl _
   |cons x xs=>exact absurd (h x List.mem_cons_self) om9
 |m+1,L,hn,h=>by
   have h1:=zkH (m:=m) (hn.erase m) λx hx=>by
    have h2:=hn.mem_erase_iff.1 hx;have:=h x h2.2;have:=h2.1;omega
   by_cases hm:m ∈ L
   ·rw [List.length_erase_of_mem hm] at h1;omega
   ·rw [List.erase_of_not_mem hm] at h1;omega
def zdM:Nat->Nat->Rat:=λi j=>if i=j then 1 else 0
theorem Alt.units {n:Nat}{F:(Nat->Nat->Rat)->Rat}(h:Alt n F)(h1:F zdM=0):∀(d t:Nat),t+d=n->∀(f:Nat->Nat),(∀j,j<n->f j<n)->(∀j,j<t->f j=j)->F (λi j=>if i=f j then 1 else 0)=0
 |0,t,ht,f,hf,hfix=>by
   rw [h.congr _ zdM λi _ j hj=>?_]
   ·exact h1
   ·show(if i=f j then(1:Rat) else 0)=if i=j then 1 else 0
    rw [hfix j om9]
 |d+1,t,ht,f,hf,hfix=>by
   by_cases hj:∃j,j<n/\f j=t
   ·obtain⟨j,g,c⟩:=hj;by_cases e:j=t
    ·exact h.units h1 d (t+1) om9 f hf λq hq=>by
      by_cases e2:q=t
      ·rw [e2,<-e,c,e]
      ·exact hfix q om9
    ·have hjgt:t<j:=by
      rcases Nat.lt_trichotomy j t with a|a|a
      ·have:=hfix j a;omega
      ·exact absurd a e
      ·exact a
     have e3:=h.swap (M:=λi j=>if i=f j then 1 else 0) (by omega:t<n) g om9 (λi=>if i=f t then 1 else 0) (λi=>if i=f j then 1 else 0);have e4:(λi j=>if i=f j then(1:Rat) else 0)=zaP (zaP (λi j=>if i=f j then 1 else 0) t λi=>if i=f t then 1 else 0) j λi=>if i=f j then 1 else 0:=by
      funext i q
      unfold zaP;by_cases q1:q=j
      ·rw [if_pos q1,q1]
      ·rw [if_neg q1];by_cases q2:q=t
       ·rw [if_pos q2,q2]
       ·rw [if_neg q2]
     rw [e4,e3];have e5:=h.units h1 d (t+1) om9 (λq=>if q=t then t else if q=j then f t else f q) (λq hq=>by
      show(if q=t then t else if q=j then f t else f q)<n
      split
      ·omega
      ·split
       ·exact hf t om9
       ·exact hf q hq) (λq hq=>by
      show(if q=t then t else if q=j then f t else f q)=q;by_cases q1:q=t
      ·rw [if_pos q1,q1]
      ·rw [if_neg q1,if_neg om9];exact hfix q om9)
     have e6:(λi q=>if i=(if q=t then t else if q=j then f t else f q) then(1:Rat) else 0)=zaP (zaP (λi j=>if i=f j then 1 else 0) t λi=>if i=f j then 1 else 0) j λi=>if i=f t then 1 else 0:=by
      funext i q
      unfold zaP;by_cases q1:q=j
      ·have hv:(if q=t then t else if q=j then f t else f q)=f t:=by rw [if_neg om9,if_pos q1]
       rw [hv,if_pos q1]
      ·by_cases q2:q=t
       ·have hv:(if q=t then t else if q=j then f t else f q)=t:=if_pos q2;rw [hv,if_neg q1,if_pos q2,c]
       ·have hv:(if q=t then t else if q=j then f t else f q)=f q:=by rw [if_neg q2,if_neg q1]
        rw [hv,if_neg q1,if_neg q2]
     rw [<-e6,e5,Rat.neg_zero]
   ·-- t is missing:two are equal
    have hd:∃k l,k<n/\l<n/\k≠l/\f k=f l:=by
     refine Classical.byContradiction λs=>?_;have o:((List.range n).map f++[t]).Nodup:=by
      rw [List.nodup_append];refine⟨?_,si9,λa ha b hb=>?_⟩
      ·rw [List.nodup_iff_pairwise_ne,List.pairwise_map];refine List.Pairwise.imp_of_mem (fun{a b} ha hb hab=>?_) (List.pairwise_lt_range (n:=n));exact λe=>s ⟨a,b,List.mem_range.1 ha,List.mem_range.1 hb,om9,e⟩
      ·obtain⟨q,hq,rfl⟩:=List.mem_map.1 ha;rw [List.mem_singleton.1 hb];exact λe=>hj ⟨q,List.mem_range.1 hq,e⟩
     have:=zkH (m:=n) o λx hx=>by
      rcases List.mem_append.1 hx with hx|hx
      ·obtain⟨q,hq,rfl⟩:=List.mem_map.1 hx;exact hf q (List.mem_range.1 hq)
      ·rw [List.mem_singleton.1 hx];omega
     rw [List.length_append,List.length_map,List.length_range] at this;simp at this;omega
    obtain⟨k,l,hk,hl,r,e⟩:=hd;exact h.same _ k l hk hl r λi _=>by
     show(if i=f k then(1:Rat) else 0)=if i=f l then 1 else 0
     rw [e]
theorem Alt.all0 {n:Nat}{F:(Nat->Nat->Rat)->Rat}(h:Alt n F)(h1:F zdM=0):∀(t:Nat),t<=n->∀(M:Nat->Nat->Rat) (f:Nat->Nat),(∀j,j<n->f j<n)->(∀j,t<=j->j<n->∀i,i<n->M i j=if i=f j then 1 else 0)->F M=0
 |0,_,M,f,hf,hM=>by
   rw [h.congr M (λi j=>if i=f j then 1 else 0) λi hi j hj=>hM j om9 hj i hi];exact h.units h1 n 0 om9 f hf λj hj=>absurd hj om9
 |t+1,ht,M,f,hf,hM=>by
   have e1:F M=F (zaP M t λi=>zav n λl=>M l t*(λl i=>if i=l then(1:Rat) else 0) l i):=h.congr _ _ λi hi j hj=>by
    by_cases e:j=t
    ·rw [e,zbw];exact(zal (f:=λl=>M l t*if i=l then(1:Rat) else 0) (g:=λl=>M l t*if l=i then 1 else 0) λl _=>by
      by_cases q:i=l
      ·rw [if_pos q,if_pos q.symm]
      ·rw [if_neg q,if_neg (Ne.symm q)]).trans (zrm hi λl=>M l t)|>.symm
    ·rw [zbC _ e]
   rw [e1,h.sum M om9 (λl=>M l t) (λl i=>if i=l then(1:Rat) else 0) n];refine zbq λl hl=>?_;rw [h.all0 h1 t om9 (zaP M t λi=>if i=l then 1 else 0) (λj=>if j=t then l else f j) (λj hj=>by
    show(if j=t then l else f j)<n
    split
    ·exact hl
    ·exact hf j hj) λj h2 h3 i hi=>?_,Rat.mul_zero]
   by_cases e:j=t
   ·rw [e,zbw];show _=if i=(if t=t then l else f t) then(1:Rat) else 0
    rw [if_pos rfl]
   ·rw [zbC _ e];show _=if i=(if j=t then l else f j) then(1:Rat) else 0
    rw [if_neg e];exact hM j om9 h3 i hi
theorem Alt.one_ {n:Nat}{F G:(Nat->Nat->Rat)->Rat}(h:Alt n F)(k:Alt n G)(M:Nat->Nat->Rat):F M*G zdM=G M*F zdM:=by
 have hs:Alt n λM=>F M*G zdM - G M*F zdM:=⟨λM N e=>by
   show F M*G zdM - G M*F zdM=F N*G zdM - G N*F zdM;rw [h.congr M N e,k.congr M N e],λM q hq a b u v=>by
   show F _*G zdM - G _*F zdM=_;rw [h.lin M q hq,k.lin M q hq];grind,λM q l hq hl c e=>by
   show F M*G zdM - G M*F zdM=0;rw [h.same M q l hq hl c e,k.same M q l hq hl c e];grind⟩
 have:=hs.all0 (by show F zdM*G zdM - G zdM*F zdM=0;grind) n (Nat.le_refl _) M (λj=>j) (λj hj=>hj) λj h1 h2=>absurd h2 om9;have h2:F M*G zdM - G M*F zdM=0:=this
 grind
theorem zje:∀n,zaJ n zdM=1
 |0=>rfl
 |n+1=>by
   rw [zfN n λi hi=>by show(if i=n then(1:Rat) else 0)=0;rw [if_neg om9],zje n];show(if n=n then(1:Rat) else 0)*1=1;rw [if_pos rfl];decide+kernel
open Go Go.RowKit Go.Proofs.Tryz
set_option maxHeartbeats 16000000
set_option maxRecDepth 100000
set_option linter.unusedVariables false
attribute [local go_sem] Oper.semAt_some
def RoundMay (I:Nat->World->Prop)(X:World->Prop)(k:Nat)(W:World):Exit->Act->World->Prop:=λe _ W'=>KeepsOthers W W'/\(e=.normal/\I k W'\/e=.ret/\X W')
def zkk (P:Program)(gf:Nat)(lb:Array Value)(enc:Nat->Array Value)(N:Nat)(I:Nat->World->Prop):Prop:=
 ∀ (l : Nat) (J : Nat → World → Prop) (Jx : World → Prop) (W : World),(∀ k W,J k W → I k W) →
  (∀k W,k<N->J (k+1) W->YieldAt Fence.wide 1 P l (enc k) W λe W'=>e=.returned (.bool true)/\J k W'\/e=.returned (.bool false)/\Jx W')->
  J N W->CallsIn Fence.wide 2 P gf (#[.func (.yield l) #[] #[]]++lb) W λe W'=>(∃v,e=.returned v)/\(J 0 W'\/Jx W')
theorem zkZ {w W:World}{X:World->Prop}{b:Nat}{o:Obj}(hX:OwnFrom w.heap.size (fun(_:Unit) W=>X W))(h:X W)(hb:w.heap.size<=b)(ho:W.heap[b]?=some o)(hc:o.isCells=false)(o':Obj):X (W.putObj b o'):=
 hX.putObj (s:=()) o' h hb ho hc
theorem zqS {P:Program}{g:Operand}{ps:Array Tmp}{assign body:Code}{Q:Exit->Act->World->Prop}{a:Act}{w:World}{gf:Nat}{lb:Array Value}(hg:a.eval g=.func (.func gf) #[] lb)
  (eg:∀args w,(callFunc gf args).run P w=.ok (.enter gf args) w) (N:Nat) (c:Nat->Array Value) (y:∀k,(c k).size=ps.size) (I:Nat->World->Prop) (X:World->Prop) (hI:∀k,OwnFrom w.heap.size (fun(_:Unit) W=>I k W)) (hX:OwnFrom w.heap.size (fun(_:Unit) W=>X W)) (h0:I N w)
  (i:zkk P gf lb c N I) (a1:Nat->Act)
  (b:∀(l k:Nat) (W:World) (K:Act->World->Prop),K (a1 k) W->assign.wpIn (Fence.wide.inRound l) 1 P (Exit.then K (λ_ _ _=>False)) {tmps:=(ps.zip (c k)).foldl (λt (p,v)=>t.setIfInBounds p v) a.tmps,defers:=[]} W)
  (d:∀(l k:Nat) (W:World),k<N->I (k+1) W->body.wpIn (Fence.wide.inRound l) 1 P (RoundMay I X k W) (a1 k) W)
  (f:∀(D:Nat) (W:World),w.heap.size<=D->I 0 W->W.heap[D]?=some (.deferred (some []))->Q .normal {a with defers:={target:=.collected D,args:=#[]}::a.defers} W)
  (n:∀(D:Nat) (W:World),w.heap.size<=D->X W->W.heap[D]?=some (.deferred (some []))->Code.ret.wpIn Fence.wide 3 P Q {a with defers:={target:=.collected D,args:=#[]}::a.defers} W):
  (Code.rangeFunc g ps assign body).wpIn Fence.wide 3 P Q a w:=by
 refine wpIn_rangeFunc λfn u=>?_;obtain⟨r,hr⟩:∃r:Loop,r={state:=.ready,pending:=none,fn,tmps:=a.tmps,params:=ps,assign,body,defers:=w.heap.size}:=⟨_,rfl⟩;obtain⟨V,hV⟩:∃V,(w.alloc (.deferred (some []))).alloc (.loop r)=V:=⟨_,rfl⟩;have gV:w.grownBy V none:=by rw [<-hV];exact(World.grownBy_alloc w _ none).trans (World.grownBy_alloc _ _ none)
 have rV:V.heap[w.heap.size+1]?=some (.loop r):=by
  have h:=World.alloc_heap_new (w.alloc (.deferred (some []))) (.loop r);rw [World.size_alloc,hV] at h;exact h
 have dV:V.heap[w.heap.size]?=some (.deferred (some [])):=by
  have h:=World.alloc_heap_new w (.deferred (some []));rw [<-hV,Below.heap_alloc _ _ _ si9];exact h
 have iV:I N V:=hI N () w V none h0 gV (λ_ e=>by cases e);refine⟨w.heap.size+1,[{target:=.collected w.heap.size,args:=#[]}],V,{target:=.fn (.func gf) lb,args:=#[.func (.yield (w.heap.size+1)) #[] #[]]},V,gf,#[.func (.yield (w.heap.size+1)) #[] #[]]++lb,V,?_,?_,λ_ _=>trivial,?_,λ_=>by omega,?_⟩
 ·rw [<-hV,hr];exact run_enterLoop_outer _ _ _ _ _
 ·simp only [resolve,hg];simp [go_sem]
 ·simp [invoke,go_sem,eg]
 obtain⟨rx,m⟩:∃rx:Loop,rx={r with state:=.done,pending:=some .ret}:=⟨_,rfl⟩;refine (i (w.heap.size + 1) (fun k W => I k W ∧ W.heap[w.heap.size + 1]? = some (.loop r) ∧ W.heap[w.heap.size]? = some (.deferred (some [])))
  (λW=>X W/\W.heap[w.heap.size+1]?=some (.loop rx)/\W.heap[w.heap.size]?=some (.deferred (some []))) V (λ_ _ h=>h.1) ?_ ⟨iV,rV,dV⟩).mono ?_
 ·rintro k W hk ⟨iW,rW,dW⟩;have hy:=run_yield (P:=P) (args:=c k) rW (by rw [hr];exact y k);have lt:=(Array.getElem?_eq_some_iff.1 rW).1;obtain⟨rb,j⟩:∃rb:Loop,rb={r with state:=.busy}:=⟨_,rfl⟩;have rY:(W.putObj (w.heap.size+1) (.loop rb)).heap[w.heap.size+1]?=some (.loop rb):=World.putObj_heap_same lt;have dX:(W.putObj (w.heap.size+1) (.loop rb)).heap[w.heap.size]?=some (.deferred (some [])):=(World.putObj_heap_other om9).trans dW;have iX:I (k+1) (W.putObj (w.heap.size+1) (.loop rb)):=zeY hI iW om9 rW rfl _;rw [hr] at hy;refine⟨fn,_,assign,body,hy,roundIn_of_wpIn u (b _ k W _ ⟨_,by have h:=run_beginRound (P:=P) rW (by rw [hr]);rw [<-j] at h;exact h,?_⟩)⟩;refine wpIn_mono (d _ k _ hk iX) ?_;rintro e a3 W3 ⟨o,h3⟩;have r3:=o.same _ _ rY rfl;have d3:=o.same _ _ dX rfl;have s:=(Array.getElem?_eq_some_iff.1 r3).1;rcases h3 with⟨rfl,i3⟩|⟨rfl,x3⟩
  ·have he:=run_endRound (P:=P) none r3;refine⟨_,_,he,.inl ⟨rfl,zeY hI i3 om9 r3 rfl _,?_,(World.putObj_heap_other om9).trans d3⟩⟩;rw [World.putObj_heap_same s,j,hr];rfl
  ·have he:=run_endRound (P:=P) (some .ret) r3;refine⟨_,_,he,.inr ⟨rfl,zkZ hX x3 om9 r3 rfl _,?_,(World.putObj_heap_other om9).trans d3⟩⟩;rw [World.putObj_heap_same s,m,j,hr];rfl
 ·rintro e W2 ⟨⟨v,rfl⟩,⟨i2,r2,d2⟩|⟨x2,r2,d2⟩⟩
  ·have he:=run_endLoop (P:=P) r2 (by rw [hr];simp);rw [show r.pending=none from by rw [hr]] at he;exact⟨none,_,he,f _ _ (Nat.le_refl _) (zeY hI i2 om9 r2 rfl _) ((World.putObj_heap_other om9).trans d2)⟩
  ·have he:=run_endLoop (P:=P) r2 (by rw [m];simp);rw [show rx.pending=some .ret from by rw [m]] at he;exact⟨some .ret,_,he,n _ _ (Nat.le_refl _) (zkZ hX x2 om9 r2 rfl _) ((World.putObj_heap_other om9).trans d2)⟩
theorem zlm (Bs len cap:Nat)(A:oA9)(v:Nat->Nat)(I:Nat->World->Prop)(hlen:len<=1099511627776)
  (b:∀k W,I k W->W.cell? ⟨Bs,0,none⟩=some (.slice A len cap)) (c:∀k W,k<len->I (k+1) W->∃ad,A=some ad/\W.cell? (ad.add k)=some (.int .u64 (v k:Int))):
  zkk prog 233 #[.pointer (some ⟨Bs,0,none⟩)] (λk=>#[.int .i64 (k:Int),.int .u64 (v k:Int)]) len I:=by
 intro l J Jx W hJ hY h0;have d:=b _ _ (hJ _ _ h0);have HB:=lh9 (λk W (h:J k W)=>b k W (hJ k W h));have HC:=lh9 (λk W (hk:k<len) (h:J (k+1) W)=>c k W hk (hJ _ _ h));have HY:=lh9 hY;have H0:=lh9 h0;have f:IntKind.i64.wrap ((len:Int) - 1)=(len:Int) - 1:=by rw [IntKind.wrap_i64];omega
 clear hJ hY h0 b c;refine callsIn_of_wp func233 rfl trivial ?_ rfl;simp only [ntmps233,List.size_toArray,List.length_cons,List.length_nil,Nat.reduceAdd,Nat.reduceSub,Array.replicate_succ,Array.replicate_zero,List.push_toArray,List.append_toArray,List.nil_append,List.cons_append]
 gi_wp2
 clear d f
 gi_loopw [3] (λi wr=>∃k:Nat,k<=len/\i=.int .i64 ((k:Int) - 1)/\J k wr) (λi _=>(intOf i+1).toNat)
 case atStart=>exact⟨len,Nat.le_refl _,rfl,H0.out⟩
 case round=>
  obtain⟨k,hk,rfl,a⟩:=hrel;have hb:=HB.out _ _ a;rcases k with _|k
  ·rw [show((0:Nat):Int) - 1= -1 from by decide];clear hb
   gi_wp2
   go_end0
   exact⟨⟨_,rfl⟩,.inl a⟩
  ·obtain⟨ad,rfl,hc⟩:=HC.out k wr hk a;obtain⟨fn,tmps,assign,body,hy,hR⟩:=HY.out k wr hk a;rw [show((k+1:Nat):Int) - 1=(k:Int) from by omega];have i1:(0:Int)<=(k:Int):=om9;have i2:(k:Int)<(len:Int):=om9;have i3:IntKind.i64.wrap ((k:Int) - 1)=(k:Int) - 1:=by rw [IntKind.wrap_i64];omega
   obtain⟨z,hz⟩:∃z,v k=z:=⟨_,rfl⟩
   try dsimp only at hy
   rw [hz] at hc hy;clear hz a
   gi_wp2
   refine hR.mono ?_;rintro e W3 (⟨rfl,hJ3⟩|⟨rfl,hJ3⟩)
   ·gi_wp2
    go_roundw
    case rel=>exact⟨k,om9,rfl,hJ3⟩
    case measure=>simp [intOf]
   ·gi_wp2
    refine bodyPost_ret (results_none rfl _ _ _) rfl ?_;exact⟨⟨_,rfl⟩,.inr hJ3⟩
open Go Go.RowKit Go.Proofs.Tryz
set_option maxHeartbeats 16000000
set_option maxRecDepth 100000
set_option linter.unusedVariables false
set_option linter.unusedSimpArgs false
attribute [local go_sem] Oper.semAt_some
def zcg (L1 L2:List Nat)(n k:Nat):Prop:=∀i,k<=i->i<n->L1.getD i 0=L2.getD i 0
theorem zcg.start (L1 L2:List Nat)(n:Nat):zcg L1 L2 n n:=λi h h'=>absurd h' om9
theorem zcg.step {L1 L2:List Nat}{n k:Nat}(h:zcg L1 L2 n (k+1))(e:L1.getD k 0=L2.getD k 0):zcg L1 L2 n k:=λi hi hn=>by
 rcases Nat.lt_or_ge k i with h1|h1
 ·exact h i om9 hn
 ·have:i=k:=om9;rw [this];exact e
theorem zcg.high {L1 L2:List Nat}{n k:Nat}(h:zcg L1 L2 n k)(h1:L1.length=n)(h2:L2.length=n):L1.drop k=L2.drop k:=by
 refine List.ext_getElem (by simp;omega) (λi a b=>?_);simp at a b;have:=h (k+i) om9 om9;rw [List.getD_eq_getElem?_getD,List.getD_eq_getElem?_getD,List.getElem?_eq_getElem om9,List.getElem?_eq_getElem om9] at this;simpa using this
theorem zcg.all {L1 L2:List Nat}{n:Nat}(h:zcg L1 L2 n 0)(h1:L1.length=n)(h2:L2.length=n):L1=L2:=by
 have:=h.high h1 h2;simpa using this
theorem zcg.less {L1 L2:List Nat}{n k:Nat}(h:zcg L1 L2 n (k+1))(h1:L1.length=n)(h2:L2.length=n)(d1:Dgs 18446744073709551616 L1)(d2:Dgs 18446744073709551616 L2)(a:L1.getD k 0<L2.getD k 0):dv 18446744073709551616 L1<dv 18446744073709551616 L2:=by
 have e:=h.high h1 h2;have e1:=congrArg (dv 18446744073709551616) e;rw [zgp de9 d1,zgp de9 d2] at e1;rw [zfl de9 d1,zfl de9 d2] at a;exact znY e1 a
theorem zcg.symm {L1 L2:List Nat}{n k:Nat}(h:zcg L1 L2 n k):zcg L2 L1 n k:=λi a b=>(h i a b).symm
structure BelI (ty ty2:TypeId)(g1 g2 c1 c2 n q0 q1 q2:Nat)(L1 L2:List Nat)(w:World)(k:Nat)(W:World):Prop where
 same:zcg L1 L2 n k
 ybox:Blk W q0 35 #[.slice (some ⟨g2,0,none⟩) n c2]
 res:Blk W q1 4 #[.bool false]
 seq:Blk W q2 35 #[.slice (some ⟨g1,0,none⟩) n c1]
 r1:zaq W ty g1 c1 n L1
 r2:zaq W ty2 g2 c2 n L2
 below:Below w.heap.size w W
theorem BelI.own {ty a:TypeId}{g1 g2 c1 c2 n q0 q1 q2 B:Nat}{L1 L2:List Nat}{w:World}(hB:w.heap.size<=B)(k:Nat):OwnFrom B (fun(_:Unit) W=>BelI ty a g1 g2 c1 c2 n q0 q1 q2 L1 L2 w k W):=by
 intro _ W W' row h hg hr;exact⟨h.same,zbE h.ybox hg hr,zbE h.res hg hr,zbE h.seq hg hr,zdv h.r1 hg hr,zdv h.r2 hg hr,zfi h.below (Nat.le_refl _) hB hg hr⟩
structure BelX (q1:Nat)(b:Bool)(w:World)(W:World):Prop where
 res:Blk W q1 4 #[.bool b]
 below:Below w.heap.size w W
theorem BelX.own {q1 B:Nat}{b:Bool}{w:World}(hB:w.heap.size<=B):OwnFrom B (fun(_:Unit) W=>BelX q1 b w W):=by
 intro _ W W' row h hg hr;exact⟨zbE h.res hg hr,zfi h.below (Nat.le_refl _) hB hg hr⟩
theorem zqv (ty s:TypeId)(g1 g2 c1 c2 n:Nat)(L1 L2:List Nat)(w:World)(h1:zaq w ty g1 c1 n L1)(h2:zaq w s g2 c2 n L2)(A:Dgs 18446744073709551616 L1)(B:Dgs 18446744073709551616 L2)(hn:n<=1099511627776):
  Calls prog 221 #[.slice (some ⟨g1,0,none⟩) n c1,.slice (some ⟨g2,0,none⟩) n c2] w λe w'=>e=.returned (.bool (decide (dv 18446744073709551616 L1<dv 18446744073709551616 L2)))/\Below w.heap.size w w':=by
 have i:=lh9 h1.len;have j:=lh9 h2.len;have t:=lh9 A;have u:=lh9 B;have G:=lh9 h1;have H:=lh9 h2;obtain⟨v,hv⟩:∃v,decide (dv 18446744073709551616 L1<dv 18446744073709551616 L2)=v:=⟨_,rfl⟩;rw [hv];have HV:=lh9 hv;clear h1 h2 A B hv;refine(callsIn_wide (n:=3)).1 ?_;refine callsIn_of_wp_marks func221 rfl trivial ?_ rfl;simp only [ntmps221,List.size_toArray,List.length_cons,List.length_nil,Nat.reduceAdd,Nat.reduceSub,Array.replicate_succ,Array.replicate_zero,List.push_toArray,List.append_toArray,List.nil_append,List.cons_append];refine wpIn_wide.2 ?_;go_wp2_with fail;obtain⟨d1,d2,d3,d4,d5⟩:=zbT w 35 4 35 #[.slice (some ⟨g2,0,none⟩) n c2] #[.bool false] #[.slice (some ⟨g1,0,none⟩) n c1];refine(zeH (some ⟨g1,0,none⟩) n c1 _).mono ?_;rintro e w2 ⟨rfl,E⟩;rw [E] at d1 d2 d3 d4 d5;obtain⟨z,hz⟩:∃z,w.heap.size=z:=⟨_,rfl⟩;have H0:=lh9 (show BelI ty s g1 g2 c1 c2 n z (z+1) (z+1+1) L1 L2 w n w2 from⟨zcg.start _ _ _,by rw [<-hz];exact d2,by rw [<-hz];exact d3,by rw [<-hz];exact d4,G.out.keep d1,H.out.keep d1,d1⟩);have y:=d1.size;clear d1 d2 d3 d4 d5 E;go_wp2_with fail;refine(wpIn_wide (n:=3)).1 ?_;refine zqS (gf:=233) (lb:=#[.pointer (some ⟨z + 1 + 1,0,none⟩)]) rfl (enters_of func233 kr9 rfl) n (fun k => #[.int .i64 (k : Int),.int .u64 (L1.getD k 0 : Int)]) (fun _ => rfl)
  (λk W=>BelI ty s g1 g2 c1 c2 n z (z+1) (z+1+1) L1 L2 w k W) (λW=>BelX (z+1) v w W) (λk=>BelI.own y k) (BelX.own y) H0.out
  (zlm (z+1+1) n c1 (some ⟨g1,0,none⟩) (λk=>L1.getD k 0) _ hn (λk W h=>h.seq.cell 0) ?cells)
  (λk=>{tmps:=#[.slice (some ⟨g1,0,none⟩) n c1,.slice (some ⟨g2,0,none⟩) n c2,undef,.pointer (some ⟨z,0,none⟩),.pointer (some ⟨z+1,0,none⟩),.int .i64 (k:Int),.int .u64 (L1.getD k 0:Int),.slice (some ⟨g1,0,none⟩) n c1,.func (.func 233) #[] #[.pointer (some ⟨z+1+1,0,none⟩)],.int .i64 (k:Int),.int .u64 (L1.getD k 0:Int),undef,undef,undef,undef,undef,undef,undef,undef,undef,undef,undef,undef],defers:=[]}) ?assign ?body ?done ?stop
 case cells=>
  intro k W hk h;exact⟨_,rfl,by rw [znP,h.r1.cell k hk]⟩
 case assign=>
  intro l k W K hK
  gi_wp2
  exact hK
 case body=>
  intro l k W hk h;have f:=h.same;have hy:=h.ybox;have c:=h.res;have J:=h.seq;have I:=h.r1;have C:=h.r2;have d:=h.below;clear h;have cy:=hy.cell 0;have cr:=c.cell 0;have fr:=c.frozen 0;have cg:=C.cell k hk;have i1:(0:Int)<=(k:Int):=om9;have i2:(k:Int)<(n:Int):=om9;by_cases hxy:L1.getD k 0=L2.getD k 0
  ·have HS:=lh9 (f.step hxy);rw [hxy];obtain⟨a,ha⟩:∃a,L2.getD k 0=a:=⟨_,rfl⟩;rw [ha] at cg⊢;clear f hxy ha
   gi_wp2
   exact⟨KeepsOthers.refl _,.inl ⟨rfl,HS.out,hy,c,J,I,C,d⟩⟩
  ·have HB:Hid (decide (L1.getD k 0<L2.getD k 0)=v):=by
    show _=_;rw [<-HV.out,decide_eq_decide];rcases Nat.lt_or_ge (L1.getD k 0) (L2.getD k 0) with hlt|hge
    ·exact⟨λ_=>f.less i.out j.out t.out u.out hlt,λ_=>hlt⟩
    ·have h:=f.symm.less j.out i.out u.out t.out om9;exact⟨λh'=>absurd h' om9,λh'=>absurd h' om9⟩
   obtain⟨a,ha⟩:∃a,L1.getD k 0=a:=⟨_,rfl⟩;obtain⟨b,hb⟩:∃a,L2.getD k 0=a:=⟨_,rfl⟩;rw [ha] at HB hxy⊢;rw [hb] at HB hxy cg;have F:=HB;have hq1:((a:Int)==(b:Int))=false:=by rw [beq_eq_false_iff_ne];omega
   have hq2:((a:Int) !=(b:Int))=true:=by rw [bne_iff_ne];omega
   clear f ha hb HB hxy
   gi_wp2
   exact⟨KeepsOthers.setCell _ _ _,.inr ⟨rfl,(by first|exact zfM c _|(rw [<-F.out];exact zfM c _)),d.setCell (p:=⟨z+1,0,none⟩) (by show w.heap.size<=z+1;omega) _⟩⟩
 case done=>
  intro D W hD h hK;have d:=h.below;have c:=h.res;have L:Hid (v=false):=by
   show _=_;rw [<-HV.out,h.same.all i.out j.out];simp
  have cr:=c.cell 0;have fr:=c.frozen 0;have g:=c.set_ 0 (.bool false);have m:=(KeepsOthers.setCell W ⟨z+1,0,none⟩ (.bool false)).same D _ hK rfl;have o:=cell_kept (g.cell 0) (grownBy_putObj' _ D (.deferred none)) (λr e=>by cases e;exact⟨_,m,rfl⟩);have HG : Hid (Below w.heap.size w ((W.setCell ⟨z + 1,0,none⟩ (.bool false)).putObj D (.deferred none))) :=
   (d.setCell (p:=⟨z+1,0,none⟩) (by show w.heap.size<=z+1;omega) _).trans (belowK_b (w:=w) (Nat.le_refl _) _ D _ _ om9 m rfl rfl)
  clear h c d g hK;go_wp2;refine⟨si9,.inl ⟨_,_,rfl,run_takeDeferred m,?_⟩⟩;exact⟨.bool false,by simp [results,f221,go_sem,o],by rw [L.out],HG.out⟩
 case stop=>
  intro D W hD h hK;have d:=h.below;have cr:=h.res.cell 0;have o:=cell_kept cr (grownBy_putObj' _ D (.deferred none)) (λr e=>by cases e;exact⟨_,hK,rfl⟩);have HG : Hid (Below w.heap.size w (W.putObj D (.deferred none))) :=
   d.trans (belowK_b (w:=w) (Nat.le_refl _) _ D _ _ om9 hK rfl rfl)
  clear h d
  gi_wp2
  refine⟨si9,.inl ⟨_,_,rfl,run_takeDeferred hK,?_⟩⟩;exact⟨.bool v,by simp [results,f221,go_sem,o],rfl,HG.out⟩
