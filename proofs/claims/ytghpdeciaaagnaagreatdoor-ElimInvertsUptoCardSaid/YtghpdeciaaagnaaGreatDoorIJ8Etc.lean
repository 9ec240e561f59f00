/- What this claim leans on. -/
import Derived.Test.YtghpdeciaaagnaaGreatDoorIMMat
import Derived.ArgAppend
namespace Go.Proofs.YtghpdeciaaagnaaGreatDoor
open Go Go.RowKit
set_option maxHeartbeats 16000000
set_option maxRecDepth 100000
set_option linter.unusedVariables false
set_option linter.unusedSimpArgs false
theorem zcR (p:Int)(w:World)(hT:zai w)(hp1: -9223372036854775808<=p)(hp2:p<=9223372036854775807):
  Calls Tryz.prog 56 #[.int .i64 p] w (zaH w (p:Rat)):=by
 have HIC:=lh9 (zbV (T:=zai))
 have HT:=lh9 (λw' (hb:Below w.heap.size w w')=>hT.on hb)
 have HTB:=HT
 obtain⟨K,hKe⟩:∃K,67108864=K:=⟨_,rfl⟩
 have hKK:K<=67108864:=by omega
 have hK0:0<K:=by omega
 clear hT hKe
 go_enter Tryz.func56,Tryz.ntmps56
 have hB:=Below.refl w.heap.size w
 obtain⟨bx1,bx2,bz⟩:=zav w 41 #[.bool false,.slice none 0 0,.slice none 0 0]
 have hB:=zab hB bx1
 have k1:=bx2
 clear bx1 bx2 bz
 go_wp2_with fail
 generalize w.alloc (.cells #[.bool false,.slice none 0 0,.slice none 0 0] 41)=W1 at*
 have HZ2:Hid (Sz (1) (p).natAbs):=(by show Int.natAbs p<18446744073709551616^1;have e1: -9223372036854775808<=p:=hp1;have e2:p<=9223372036854775807:=hp2;omega)
 (with_reducible refine(HIC.out.of p _ (HT.out _ hB) hp1 hp2).mono ?_)
 rintro e wc2 ⟨b2,B2,m2,d2,rfl,hw2,hb⟩
 have hB:=zab hB hb
 have k1:=zaa hb k1
 have HN2:=lh9 hw2
 clear hb hw2
 obtain⟨sc0,sf0,sc1,sf1,sc2,sf2⟩:=st3 k1 (.bool b2) (.slice B2 m2 d2)
 obtain⟨r0,r1,r2⟩:=(sn3 k1 (.bool b2) (.slice B2 m2 d2) (.slice none 0 0)).c3
 have HG:=lh9 (gq3 (zeP HN2.out) k1 hB (by omega))
 go_wp2
 refine bodyPost_ret (v:=.agg #[.bool b2,.slice B2 m2 d2,.slice none 0 0]) (by simp [results,Tryz.results56,go_sem,r0,r1,r2]) rfl ?_
 exact HG.out
theorem zhU (z:Int)(baa:Bool)(Baa:oA9)(maa daa:Nat)(w:World)(hT:zai w)(haa:zaG w z baa Baa maa daa)(qaa:maa<=67108864):
  Calls Tryz.prog 179 #[.agg #[.bool baa,.slice Baa maa daa]] w (zaH w (z:Rat)):=by
 have HT:=lh9 (λw' (hb:Below w.heap.size w w')=>hT.on hb)
 have HTB:=HT
 obtain⟨K,hKe⟩:∃K,67108864=K:=⟨_,rfl⟩
 have hKK:K<=67108864:=by omega
 have hK0:0<K:=by omega
 have HNaa:=lh9 (λw' (b:Below w.heap.size w w')=>haa.below b)
 have HZaa:Hid (Sz K z.natAbs):=Sz.of_words haa.words (by omega)
 clear haa qaa
 clear hT hKe
 go_enter Tryz.func179,Tryz.ntmps179
 have hB:=Below.refl w.heap.size w
 obtain⟨bx1,bx2,bx3,bz⟩:=zbI w 39 41 #[.bool baa,.slice Baa maa daa] #[.bool false,.slice none 0 0,.slice none 0 0]
 have hB:=zab hB bx1
 obtain⟨g1,e1⟩:=bx2.c2
 have k2:=bx3
 clear bx1 bx2 bx3 bz
 go_wp2_with fail
 generalize (w.alloc (.cells #[.bool baa,.slice Baa maa daa] 39)).alloc (.cells #[.bool false,.slice none 0 0,.slice none 0 0] 41)=W1 at*
 have HZ3:Hid (Sz (K) (z).natAbs):=HZaa.out
 (with_reducible refine(zgN (z) baa Baa maa daa _ (HT.out _ hB) (HNaa.out _ hB) (szi HZaa (HNaa.out _ hB))).mono ?_)
 rintro e wc2 ⟨b3,B3,m3,d3,rfl,hw3,hb⟩
 have hB:=zab hB hb
 have g1:=zac hb g1
 have e1:=zac hb e1
 have k2:=zaa hb k2
 have HN3:=lh9 hw3
 clear hb hw3
 obtain⟨sc0,sf0,sc1,sf1,sc2,sf2⟩:=st3 k2 (.bool b3) (.slice B3 m3 d3)
 obtain⟨r0,r1,r2⟩:=(sn3 k2 (.bool b3) (.slice B3 m3 d3) (.slice none 0 0)).c3
 have HG:=lh9 (gq3 (zeP HN3.out) k2 hB (by omega))
 go_wp2
 refine bodyPost_ret (v:=.agg #[.bool b3,.slice B3 m3 d3,.slice none 0 0]) (by simp [results,Tryz.results179,go_sem,r0,r1,r2]) rfl ?_
 exact HG.out
def Sp (n m:Nat)(M:Nat->Nat->Rat)(v:Nat->Rat):Prop:=∃y:Nat->Rat,∀j,j<m->v j=zaw n λi=>y i*M i j
theorem Sp.zero {n m:Nat}{M:Nat->Nat->Rat}:Sp n m M λ_=>0:=⟨λ_=>0,λj _=>(zbB λi _=>Rat.zero_mul _).symm⟩
theorem Sp.comb {n m:Nat}{M:Nat->Nat->Rat}{u v:Nat->Rat}(a b:Rat)(h:Sp n m M u)(k:Sp n m M v):Sp n m M λj=>a*u j+b*v j:=by
 obtain⟨y,hy⟩:=h;obtain⟨z,hz⟩:=k
 refine⟨λi=>a*y i+b*z i,λj hj=>?_⟩
 show a*u j+b*v j=_
 rw [hy j hj,hz j hj,zaK,zaK,<-zco]
 exact zan λi _=>by grind
theorem Sp.scale {n m:Nat}{M:Nat->Nat->Rat}{u v:Nat->Rat}(a:Rat)(h:Sp n m M u)(e:∀j,j<m->v j=a*u j):Sp n m M v:=by
 obtain⟨y,hy⟩:=h
 refine⟨λi=>a*y i,λj hj=>?_⟩
 rw [e j hj,hy j hj,zaK]
 exact zan λi _=>by grind
theorem Sp.congr {n m:Nat}{M:Nat->Nat->Rat}{u v:Nat->Rat}(h:Sp n m M u)(e:∀j,j<m->v j=u j):Sp n m M v:=by
 obtain⟨y,hy⟩:=h;exact⟨y,λj hj=>(e j hj).trans (hy j hj)⟩
theorem zdH {k c:Nat}(hc:c<k)(f:Nat->Rat):zaw k (λi=>(if i=c then 1 else 0)*f i)=f c:=by
 induction k with
 |zero=>cases hc
 |succ k ih=>
   rw [zaL]
   by_cases h:c=k
   ·subst h
    rw [if_pos rfl,Rat.one_mul,zbB λi hi=>by rw [if_neg (by omega),Rat.zero_mul],Rat.zero_add]
   ·rw [if_neg (by omega),Rat.zero_mul,Rat.add_zero,ih (by omega)]
theorem Sp.row {n m:Nat}{M:Nat->Nat->Rat}{i:Nat}(hi:i<n):Sp n m M (M i):=⟨λq=>if q=i then 1 else 0,λj _=>(zdH hi λq=>M q j).symm⟩
theorem Sp.sum {n m:Nat}{M:Nat->Nat->Rat}{u:Nat->Nat->Rat}(f:Nat->Rat){q:Nat}(h:∀l,l<q->Sp n m M (u l)):Sp n m M λj=>zaw q λl=>f l*u l j:=by
 induction q with
 |zero=>exact Sp.zero
 |succ q ih=>
   refine((ih λl hl=>h l (by omega)).comb 1 (f q) (h q (by omega))).congr λj _=>?_
   rw [zaL,Rat.one_mul]
theorem Sp.trans {n m n':Nat}{M M':Nat->Nat->Rat}{v:Nat->Rat}(h:Sp n' m M' v)(k:∀i,i<n'->Sp n m M (M' i)):Sp n m M v:=by
 obtain⟨y,hy⟩:=h
 exact(Sp.sum y k).congr hy
structure RF (n m:Nat)(M:Nat->Nat->Rat)(ld:List Nat)(R:Nat->Nat->Rat):Prop where
 len:ld.length<=n
 up:∀l l',l<l'->l'<ld.length->ld.getD l 0<ld.getD l' 0
 lt:∀l,l<ld.length->ld.getD l 0<m
 piv:∀l,l<ld.length->∀i,i<n->R i (ld.getD l 0)=if i=l then 1 else 0
 zero:∀i,ld.length<=i->i<n->∀j,j<m->R i j=0
 fore:∀l,l<ld.length->∀j,j<ld.getD l 0->R l j=0
 sum:∀i,i<n->∀j,j<m->M i j=zaw ld.length λl=>M i (ld.getD l 0)*R l j
 span:∀l,l<ld.length->Sp n m M (R l)
theorem RF.of_elim {n m:Nat}{a0 M:Nat->Nat->Rat}{e:ESt}(h:EOk n m m a0 e)(ht:∀i,i<n->∃t:Rat,t≠0/\∀j,j<m->a0 i j=t*M i j):RF n m M e.ld λi j=>e.p⁻¹*atM e.S i j:=by
 obtain⟨hd,a,hs,hi⟩:=h
 have hp:=hi.ne
 -- rows of either are multiples of the other's
 have r1:∀i,i<n->∃i',i'<n/\∃t:Rat,∀j,j<m->a i j=t*M i' j:=λi hi'=>by
  obtain⟨i',k1,e,_,k3⟩:=hs.rows.1 i hi'
  obtain⟨t,_,k4⟩:=ht i' k1
  exact⟨i',k1,e*t,λj hj=>by rw [k3 j,k4 j hj];grind⟩
 have r2:∀i,i<n->∃i',i'<n/\∃t:Rat,∀j,j<m->M i j=t*a i' j:=λi hi'=>by
  obtain⟨i',k1,e,_,k3⟩:=hs.rows.2 i hi'
  obtain⟨t,k2,k4⟩:=ht i hi'
  exact⟨i',k1,t⁻¹*e,λj hj=>by have q1:=k3 j;have q2:=k4 j hj;grind⟩
 refine⟨hi.len,hi.up,hi.lt,λl hl i hi'=>?_,λi h1 h2 j hj=>by show e.p⁻¹*atM e.S i j=0;rw [hi.low i h1 h2 j hj,Rat.mul_zero],λl hl j hj=>by show e.p⁻¹*atM e.S l j=0;rw [hi.fore l hl j hj,Rat.mul_zero],λi hi' j hj=>?_,λl hl=>?_⟩
 ·show e.p⁻¹*atM e.S i (e.ld.getD l 0)=_
  rw [hi.piv l hl i hi']
  split<;>grind
 ·obtain⟨i',k1,t,k2⟩:=r2 i hi'
  have e1:=hi.back i' k1 j hj
  have e2:(if e.ld.length<=i' then atM e.S i' j else 0)=0:=by
   split
   ·next h=>exact hi.low i' h k1 j hj
   ·rfl
  rw [e2,Rat.add_zero] at e1
  have e3:zaw e.ld.length (λl=>M i (e.ld.getD l 0)*(e.p⁻¹*atM e.S l j))=t*e.p⁻¹*zaw e.ld.length (λl=>a i' (e.ld.getD l 0)*atM e.S l j):=by
   rw [zaK]
   exact zan λl hl=>by rw [k2 _ (by have:=hi.lt l hl;omega)];grind
  show M i j=zaw e.ld.length (λl=>M i (e.ld.getD l 0)*(e.p⁻¹*atM e.S l j))
  rw [e3,k2 j hj,<-e1]
  grind
 ·have hk:=hi.len
  have e1:∀j,j<m->atM e.S l j=zaw e.ld.length λq=>zaF e.ld.length (zaQ (λi j=>a i (e.ld.getD j 0)) l λi=>if i=q then 1 else 0)*a q j:=λj hj=>by
   rw [hi.col hl hj]
   have:zaF e.ld.length (zaQ (λi j=>a i (e.ld.getD j 0)) l λi=>a i j)=zaF e.ld.length (zaQ (λi j=>a i (e.ld.getD j 0)) l λi=>zaw e.ld.length λq=>a q j*if i=q then 1 else 0):=zaV λi hi' j' _=>by
    by_cases e:j'=l
    ·rw [e,zbk,zbk,<-zdH hi' (λq=>a q j)]
     exact zan λq _=>by
      rw [Rat.mul_comm];congr 1
      by_cases h:q=i
      ·rw [if_pos h,if_pos h.symm]
      ·rw [if_neg h,if_neg (Ne.symm h)]
    ·rw [zbp _ e,zbp _ e]
   rw [this,zfB _ hl (λq=>a q j) (λq i=>if i=q then 1 else 0)]
   exact zan λq _=>Rat.mul_comm _ _
  have e2:∀q,q<e.ld.length->Sp n m M (a q):=λq hq=>by
   obtain⟨i',k1,t,k2⟩:=r1 q (by omega)
   exact(Sp.row k1).scale t k2
  exact(Sp.sum _ e2).scale e.p⁻¹ λj hj=>by rw [<-e1 j hj]
theorem RF.of_span {n m:Nat}{M R:Nat->Nat->Rat}{ld:List Nat}(h:RF n m M ld R){v:Nat->Rat}(hv:Sp n m M v):∀j,j<m->v j=zaw ld.length λl=>v (ld.getD l 0)*R l j:=by
 obtain⟨y,hy⟩:=hv
 intro j hj
 rw [hy j hj]
 have e1:zaw n (λi=>y i*M i j)=zaw n (λi=>zaw ld.length λl=>y i*M i (ld.getD l 0)*R l j):=zan λi hi=>by
  rw [h.sum i hi j hj,zaK]
  exact zan λl _=>by grind
 rw [e1,zgn]
 refine zan λl hl=>?_
 rw [hy _ (h.lt l hl),Rat.mul_comm,zaK]
 exact zan λi _=>Rat.mul_comm _ _
theorem RF.begins {n m:Nat}{M R:Nat->Nat->Rat}{ld:List Nat}(h:RF n m M ld R){v:Nat->Rat}(hv:Sp n m M v){c:Nat}(hc:c<m)(h0:∀j,j<c->v j=0)(h1:v c≠0):∃l,l<ld.length/\ld.getD l 0=c:=by
 refine Classical.byContradiction λhn=>h1 ?_
 rw [h.of_span hv c hc]
 refine zbB λl hl=>?_
 rcases Nat.lt_trichotomy (ld.getD l 0) c with a|a|a
 ·rw [h0 _ a,Rat.zero_mul]
 ·exact absurd ⟨l,hl,a⟩ hn
 ·rw [h.fore l hl c a,Rat.mul_zero]
theorem zld:∀{xs ys:List Nat},xs.Pairwise (·<·)->ys.Pairwise (·<·)->(∀x,x ∈ xs↔x ∈ ys)->xs=ys
 |[],[],_,_,_=>rfl
 |[],y::ys,_,_,h=>by have:=(h y).2 List.mem_cons_self;cases this
 |x::xs,[],_,_,h=>by have:=(h x).1 List.mem_cons_self;cases this
 |x::xs,y::ys,h1,h2,h=>by
   rw [List.pairwise_cons] at h1 h2
   have e:x=y:=by
    rcases List.mem_cons.1 ((h x).1 List.mem_cons_self) with a|a
    ·exact a
    ·rcases List.mem_cons.1 ((h y).2 List.mem_cons_self) with b|b
     ·exact b.symm
     ·have:=h1.1 y b;have:=h2.1 x a;omega
   subst e
   congr 1
   refine zld h1.2 h2.2 λz=>⟨λhz=>?_,λhz=>?_⟩
   ·rcases List.mem_cons.1 ((h z).1 (List.mem_cons_of_mem _ hz)) with a|a
    ·have:=h1.1 z hz;omega
    ·exact a
   ·rcases List.mem_cons.1 ((h z).2 (List.mem_cons_of_mem _ hz)) with a|a
    ·have:=h2.1 z hz;omega
    ·exact a
theorem zeF {xs:List Nat}{l:Nat}(h:l<xs.length):xs.getD l 0 ∈ xs:=by
 rw [List.getD_eq_getElem?_getD,List.getElem?_eq_getElem h];exact List.getElem_mem h
theorem zjD {xs:List Nat}{x:Nat}(h:x ∈ xs):∃l,l<xs.length/\xs.getD l 0=x:=by
 obtain⟨l,hl,e⟩:=List.mem_iff_getElem.1 h
 exact⟨l,hl,by rw [List.getD_eq_getElem?_getD,List.getElem?_eq_getElem hl];exact e⟩
theorem RF.rising {n m:Nat}{M R:Nat->Nat->Rat}{ld:List Nat}(h:RF n m M ld R):ld.Pairwise (·<·):=by
 rw [List.pairwise_iff_getElem]
 intro i j hi hj hij
 have:=h.up i j hij hj
 rw [List.getD_eq_getElem?_getD,List.getD_eq_getElem?_getD,List.getElem?_eq_getElem hi,List.getElem?_eq_getElem hj] at this
 exact this
theorem RF.one {n m n':Nat}{M R M' R':Nat->Nat->Rat}{ld ld':List Nat}(h:RF n m M ld R)(k:RF n' m M' ld' R')(h1:∀i,i<n'->Sp n m M (M' i))(h2:∀i,i<n->Sp n' m M' (M i)):ld=ld'/\∀l,l<ld.length->∀j,j<m->R l j=R' l j:=by
 have s1:∀l,l<ld'.length->Sp n m M (R' l):=λl hl=>(k.span l hl).trans h1
 have s2:∀l,l<ld.length->Sp n' m M' (R l):=λl hl=>(h.span l hl).trans h2
 have e:ld=ld':=by
  refine zld h.rising k.rising λx=>⟨λhx=>?_,λhx=>?_⟩
  ·obtain⟨l,hl,rfl⟩:=zjD hx
   obtain⟨q,hq,e⟩:=k.begins (s2 l hl) (h.lt l hl) (h.fore l hl) (by rw [h.piv l hl l (by have:=h.len;omega),if_pos rfl];decide+kernel)
   rw [<-e];exact zeF hq
  ·obtain⟨l,hl,rfl⟩:=zjD hx
   obtain⟨q,hq,e⟩:=h.begins (s1 l hl) (k.lt l hl) (k.fore l hl) (by rw [k.piv l hl l (by have:=k.len;omega),if_pos rfl];decide+kernel)
   rw [<-e];exact zeF hq
 subst e
 refine⟨rfl,λl hl j hj=>?_⟩
 have hk:=h.len
 rw [k.of_span (s2 l hl) j hj]
 have:zaw ld.length (λq=>R l (ld.getD q 0)*R' q j)=zaw ld.length (λq=>(if q=l then 1 else 0)*R' q j):=zan λq hq=>by
  rw [h.piv q hq l (by omega)]
  by_cases e:q=l
  ·rw [if_pos e,if_pos e.symm]
  ·rw [if_neg e,if_neg (Ne.symm e)]
 rw [this,zdH hl]
def kerF (ld:List Nat)(R:Nat->Nat->Rat)(c:Nat):Nat->Rat:=λj=>(if j=c then 1 else 0) - zaw ld.length λq=>(if j=ld.getD q 0 then 1 else 0)*R q c
theorem zkQ {ld:List Nat}{R:Nat->Nat->Rat}{c j:Nat}(h:j ∉ ld):kerF ld R c j=if j=c then 1 else 0:=by
 unfold kerF
 rw [zbB λq hq=>by rw [if_neg (λe:j=ld.getD q 0=>h (by rw [e];exact zeF hq)),Rat.zero_mul]]
 grind
theorem znx (k:Nat)(f g:Nat->Rat):zaw k (λi=>f i - g i)=zaw k f - zaw k g:=by
 have:=zco k f (λi=> -g i)
 rw [zkd] at this
 rw [Rat.sub_eq_add_neg,<-this]
 exact zan λi _=>Rat.sub_eq_add_neg _ _
theorem RF.ker {n m:Nat}{M R:Nat->Nat->Rat}{ld:List Nat}(h:RF n m M ld R){c:Nat}(hcm:c<m){i:Nat}(hi:i<n):zaw m (λj=>M i j*kerF ld R c j)=0:=by
 have hk:=h.len
 have e1:zaw m (λj=>M i j*kerF ld R c j)=zaw m (λj=>(if j=c then 1 else 0)*M i j) - zaw m (λj=>zaw ld.length λq=>(if j=ld.getD q 0 then 1 else 0)*(M i j*R q c)):=by
  rw [<-znx]
  refine zan λj _=>?_
  unfold kerF
  have:zaw ld.length (λq=>(if j=ld.getD q 0 then 1 else 0)*(M i j*R q c))=M i j*zaw ld.length (λq=>(if j=ld.getD q 0 then 1 else 0)*R q c):=by
   rw [zaK];exact zan λq _=>by grind
  rw [this];grind
 rw [e1,zdH hcm,zgn]
 have e2:zaw ld.length (λq=>zaw m λj=>(if j=ld.getD q 0 then 1 else 0)*(M i j*R q c))=zaw ld.length (λq=>M i (ld.getD q 0)*R q c):=zan λq hq=>zdH (h.lt q hq) λj=>M i j*R q c
 rw [e2,<-h.sum i hi c hcm]
 grind
theorem all_in:∀{m:Nat} {ld:List Nat},(∀c,c<m->c ∈ ld)->m<=ld.length
 |0,_,_=>Nat.zero_le _
 |m+1,ld,h=>by
   have h1:=h m (by omega)
   have h2:=all_in (m:=m) (ld:=ld.erase m) λc hc=>(List.mem_erase_of_ne (by omega)).2 (h c (by omega))
   rw [List.length_erase_of_mem h1] at h2
   have:=List.length_pos_of_mem h1
   omega
theorem zih {ld:List Nat}{m:Nat}(h:ld.length<m):∃c,c<m/\c ∉ ld:=by
 refine Classical.byContradiction λhn=>?_
 have:=all_in (m:=m) (ld:=ld) λc hc=>Classical.byContradiction λh=>hn ⟨c,hc,h⟩
 omega
def zce (l:Rat)(row:List Rat):Rat:=row.foldl (λl x=>l*(((l*x).den:Nat):Rat)) l
def zaD (row:List Rat):Rat:=zce 1 row
def zfu (x:Rat):Prop:=∃z:Int,x=(z:Rat)
theorem zfu.mul {x y:Rat}(h:zfu x)(k:zfu y):zfu (x*y):=by
 obtain⟨z,rfl⟩:=h;obtain⟨t,rfl⟩:=k;exact⟨z*t,(Rat.intCast_mul z t).symm⟩
theorem zfu.nat (n:Nat):zfu (n:Rat):=⟨n,(Rat.intCast_natCast n).symm⟩
theorem den_ne (x:Rat):((x.den:Nat):Rat)≠0:=λh=>x.den_nz (by
 have:((x.den:Nat):Rat)=((0:Nat):Rat):=h
 exact Rat.natCast_inj.1 this)
theorem den_int (x:Rat):zfu (((x.den:Nat):Rat)*x):=⟨x.num,by rw [Rat.mul_comm];exact zdD x⟩
theorem zed (l x:Rat)(row:List Rat):zce l (x::row)=zce (l*(((l*x).den:Nat):Rat)) row:=rfl
theorem zfY:∀{row:List Rat} {l:Rat},l≠0->zce l row≠0
 |[],_,h=>h
 |x::row,l,h=>by
   rw [zed]
   refine zfY λe=>?_
   rcases Rat.mul_eq_zero.1 e with e|e
   ·exact h e
   ·exact den_ne _ e
theorem zhE:∀{row:List Rat} {l:Rat},∃q:Rat,zfu q/\zce l row=q*l
 |[],l=>⟨1,⟨1,by decide+kernel⟩,(Rat.one_mul l).symm⟩
 |x::row,l=>by
   obtain⟨q,hq,e⟩:=zhE (row:=row) (l:=l*(((l*x).den:Nat):Rat))
   exact⟨q*(((l*x).den:Nat):Rat),hq.mul (zfu.nat _),by rw [zed,e];grind⟩
theorem zlq:∀{row:List Rat} {l:Rat},∀x ∈ row,zfu (zce l row*x)
 |x::row,l,y,h=>by
   rcases List.mem_cons.1 h with rfl|h
   ·obtain⟨q,hq,e⟩:=zhE (row:=row) (l:=l*(((l*y).den:Nat):Rat))
    rw [zed,e]
    have:=hq.mul (den_int (l*y))
    rw [show q*(l*(((l*y).den:Nat):Rat))*y=q*((((l*y).den:Nat):Rat)*(l*y)) by grind]
    exact this
   ·rw [zed];exact zlq y h
theorem den_dvd {q z:Int}{r:Rat}(h:(q:Rat)*r=(z:Rat)):(r.den:Int)∣ q:=by
 have h1:(q:Rat)*(r*((r.den:Nat):Rat))=(z:Rat)*((r.den:Nat):Rat):=by rw [<-h];grind
 rw [zdD,<-Rat.intCast_mul,<-Rat.intCast_natCast,<-Rat.intCast_mul] at h1
 have h2:q*r.num=z*(r.den:Int):=Rat.intCast_inj.1 h1
 have h3:r.den ∣ q.natAbs*r.num.natAbs:=by
  rw [<-Int.natAbs_mul,h2,Int.natAbs_mul]
  exact⟨z.natAbs,by rw [Nat.mul_comm];rfl⟩
 have h4:r.den ∣ q.natAbs:=Nat.Coprime.dvd_of_dvd_mul_right r.reduced.symm h3
 exact Int.ofNat_dvd_left.2 h4
theorem LI.int {K:Nat}{x:Rat}(h:LI K x):zfu x:=by obtain⟨z,e,_⟩:=h;exact⟨z,e⟩
theorem LI.of_mul {K:Nat}{q x y:Rat}(h:LI K y)(hq:zfu q)(hx:zfu x)(e:y=q*x)(h0:q≠0):LI K x:=by
 obtain⟨z,rfl⟩:=hq;obtain⟨t,rfl⟩:=hx;obtain⟨v,rfl,hv⟩:=h
 refine⟨t,rfl,hv.of_le ?_⟩
 rw [<-Rat.intCast_mul] at e
 rw [Rat.intCast_inj.1 e,Int.natAbs_mul]
 have:z≠0:=λhz=>h0 (by rw [hz];rfl)
 exact Nat.le_mul_of_pos_left _ (Int.natAbs_pos.2 this)
theorem zrp {row:List Rat}{l:Rat}(h:zfu l):zfu (zce l row):=by
 obtain⟨q,hq,e⟩:=zhE (row:=row) (l:=l);rw [e];exact hq.mul h
theorem one_int:zfu 1:=⟨1,by decide+kernel⟩
theorem zls (row:List Rat):zaD row≠0:=zfY (by decide+kernel)
theorem znG:∀{row:List Rat} {l:Rat} {K L:Nat},LI L l->(∀x ∈ row,SzQ K x)->LI (L+row.length*K) (zce l row)
 |[],l,K,L,hl,_=>by rw [List.length_nil,Nat.zero_mul];exact hl
 |x::row,l,K,L,hl,h=>by
   rw [zed]
   have h1:LI K (((l*x).den:Nat):Rat):=by
    obtain⟨z,hz,_⟩:=hl
    have hd:(l*x).den ∣ x.den:=by
     have:((x.den:Int):Rat)*(l*x)=((z*x.num:Int):Rat):=by
      rw [Rat.intCast_mul,<-hz,<-zdD x,Rat.intCast_natCast];grind
     exact Int.natCast_dvd_natCast.1 (den_dvd this)
    exact⟨((l*x).den:Int),(Rat.intCast_natCast _).symm,((h x List.mem_cons_self).den).of_le (Nat.le_of_dvd (Nat.pos_of_ne_zero x.den_nz) hd)⟩
   refine(znG (K:=K) (hl.mul h1) λy hy=>h y (List.mem_cons_of_mem _ hy)).up ?_
   rw [List.length_cons,Nat.succ_mul];omega
theorem num_le {l x:Rat}{L K:Nat}(hl:LI L l)(hx:SzQ K x)(hi:zfu (l*x)):LI (L+K) (l*x):=by
 obtain⟨z,hz,hz2⟩:=hl
 obtain⟨t,ht⟩:=hi
 refine⟨t,ht,?_⟩
 -- t*den=z*num
 have h1:t*(x.den:Int)=z*x.num:=by
  have:(t:Rat)*((x.den:Nat):Rat)=(z:Rat)*(x.num:Rat):=by
   rw [<-ht,hz,<-zdD x];grind
  rw [<-Rat.intCast_natCast,<-Rat.intCast_mul,<-Rat.intCast_mul] at this
  exact Rat.intCast_inj.1 this
 have h2:t.natAbs*x.den=z.natAbs*x.num.natAbs:=by
  rw [<-Int.natAbs_mul,<-h1,Int.natAbs_mul];rfl
 refine(hz2.mul hx.num).of_le ?_
 rw [<-h2]
 exact Nat.le_mul_of_pos_right _ (Nat.pos_of_ne_zero x.den_nz)
theorem zlr {row:List Rat}{K n:Nat}(hn:row.length<=n)(h:∀x ∈ row,SzQ K x):LI (1+(n+1)*K) (zaD row)/\∀x ∈ row,LI (1+(n+1)*K) (zaD row*x):=by
 have h1:=znG (K:=K) LI.one h
 have hm:row.length*K<=n*K:=Nat.mul_le_mul_right _ hn
 have hs:(n+1)*K=n*K+K:=Nat.succ_mul n K
 exact⟨h1.up (by omega),λx hx=>(num_le h1 (h x hx) (zlq x hx)).up (by omega)⟩
theorem zpk {row:List Rat}{K k:Nat}(h:LI K (zaD row)):LI K (zaD (row.take k)):=by
 obtain⟨q,hq,e⟩:=zhE (row:=row.drop k) (l:=zaD (row.take k))
 have e2:zce (zaD (row.take k)) (row.drop k)=zaD row:=by
  unfold zaD zce
  rw [<-List.foldl_append,List.take_append_drop]
 rw [e2] at e
 exact h.of_mul hq (zrp one_int) e λhz=>zls row (by rw [e,hz,Rat.zero_mul])
theorem zpj {row:List Rat}{k:Nat}(h:k<row.length):zaD (row.take (k+1))=zaD (row.take k)*(((zaD (row.take k)*row.getD k 0).den:Nat):Rat):=by
 unfold zaD zce
 rw [List.take_succ_eq_append_getElem h,List.foldl_append,List.getD_eq_getElem?_getD,List.getElem?_eq_getElem h]
 rfl
theorem num_div {x:Rat}(h:x.den≠1):(x.num:Rat) / x=((x.den:Nat):Rat):=by
 have hx:x≠0:=λe=>h (by rw [e];rfl)
 have:=zdD x
 rw [<-this]
 grind
section
variable {P:Program}{ops:Array Oper}{Q:Exit->Act->World->Prop}{S:World->Prop}{fuel:Nat}{l:Array Bool}{a:Act}{w:World}
theorem rcb (i j:Nat){o p:Oper}(hk:∀K':Act->World->Prop,Shut (∀(a:Act) (w:World),S w->(S w->wpAnyH P .any ops (NoPanic Q) S fuel (l.setIfInBounds i true) a w)->K' a w)->Oper.wp P o a w K' (NoPanic Q))(hj:∀K':Act->World->Prop,Shut (∀(a:Act) (w:World),S w->(S w->wpAnyH P .any ops (NoPanic Q) S fuel (l.setIfInBounds j true) a w)->K' a w)->Oper.wp P p a w K' (NoPanic Q))(h1:ops[i]?=some o:=by simp only [List.getElem?_toArray,List.getElem?_cons_succ,List.getElem?_cons_zero];rfl)(h1':ops[j]?=some p:=by simp only [List.getElem?_toArray,List.getElem?_cons_succ,List.getElem?_cons_zero];rfl)(h2:Region.ready .any ops l=[i,j]:=by kernel_rfl)(h3:Region.wanted o (yielded ops a.tmps)=true:=by rfl)(h3':Region.wanted p (yielded ops a.tmps)=true:=by rfl):wpAnyH P .any ops (NoPanic Q) S (fuel+1) l a w:=
 wpAnyH_ready h2 (by simp) (AllReadyH.cons h1 (λK' hK=>by rw [if_pos h3];exact hk K' hK) (AllReadyH.cons h1' (λK' hK=>by rw [if_pos h3'];exact hj K' hK) AllReadyH.nil))
end
structure zfw (w:World)(base g n cap:Nat)(Ls:List (List Rat)):Prop where
 ge:base<=g
 len:Ls.length=n
 fits:n<=cap
 most:cap<=9223372036854775807
 blk:∃cs:Array Value,Blk w g 61 cs/\(∀u ∈ cs.toList,zcr u)/\cs.size=cap
 num:∀i L,Ls[i]?=some L->∃(B:oA9) (d:Nat),w.cell? ⟨g,i,none⟩=some (.slice B L.length d)/\zaz w B L.length d L
theorem zfw.below {w w':World}{base g n cap:Nat}{Ls:List (List Rat)}(h:zfw w base g n cap Ls)(hb:Below w.heap.size w w'):zfw w' base g n cap Ls:=by
 refine⟨h.ge,h.len,h.fits,h.most,?_,λi L hi=>?_⟩
 ·obtain⟨cs,hk,h1,h2⟩:=h.blk
  exact⟨cs,zaa hb hk,h1,h2⟩
 ·obtain⟨B,d,h1,h2⟩:=h.num i L hi
  exact⟨B,d,zac hb h1,zaz.keep h2 hb⟩
theorem zfw.rows {w:World}{base g n cap:Nat}{Ls:List (List Rat)}(h:zfw w base g n cap Ls):zaB (zaI zah) w (some ⟨g,0,none⟩) n Ls:=
 ⟨h.len,λi L hi=>by
  obtain⟨cs,hk,_⟩:=h.blk
  obtain⟨B,d,h1,h2⟩:=h.num i L hi
  exact⟨_,B,d,rfl,hk.lt,by rw [zaP];exact h1,h2⟩⟩
