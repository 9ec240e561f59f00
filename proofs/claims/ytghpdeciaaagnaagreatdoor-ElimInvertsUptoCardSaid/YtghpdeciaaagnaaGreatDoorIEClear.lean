/- What this claim leans on. -/
import Derived.Test.YtghpdeciaaagnaaGreatDoorIVTimes
import Derived.Test.YtghpdeciaaagnaaGreatDoorIERow
namespace Go.Proofs.YtghpdeciaaagnaaGreatDoor
open Go Go.RowKit
set_option maxHeartbeats 16000000
set_option maxRecDepth 100000
set_option linter.unusedVariables false
set_option linter.unusedSimpArgs false
section
variable {w:World}{g:Nat}{st:ESt}{rd:Rat}{A:oA9}{n cA:Nat}{B:oA9}{k cB:Nat}{x0 x1 x2 y0 y1 y2:Value}
theorem ElS.cells (h:ElS w g st rd A n cA B k cB x0 x1 x2 y0 y1 y2):w.cell? ⟨g,0,none⟩=some (.slice A n cA)/\w.cell? ⟨g,1,none⟩=some (.slice B k cB)/\w.cell? ⟨g,2,none⟩=some x0/\w.cell? ⟨g,3,none⟩=some x1/\w.cell? ⟨g,4,none⟩=some x2/\w.cell? ⟨g,5,none⟩=some y0/\w.cell? ⟨g,6,none⟩=some y1/\w.cell? ⟨g,7,none⟩=some y2:=
 ⟨h.blk.cell 0,h.blk.cell 1,h.blk.cell 2,h.blk.cell 3,h.blk.cell 4,h.blk.cell 5,h.blk.cell 6,h.blk.cell 7⟩
theorem zlF {K m dr dy c:Nat}{R Y:oA9}{row by_:List Rat}(hT:zai w)(hE:ElS w g st rd A n cA B k cB x0 x1 x2 y0 y1 y2)(hr:zaz w R m dr row)(hy:zaz w Y m dy by_)(hc:c<m)(zr:zau K row)(zy:zau K by_)(zp:SzQ K st.p)(hp:st.p≠0)(hm:m<=1073741824:=by omega)(hK:4*K+1<=33554432:=by omega):
  Calls Tryz.prog 181 #[.pointer (some ⟨g,0,none⟩),.slice R m dr,.slice Y m dy,.int .i64 (c:Int)] w (zdI w m (zdl st.p row by_ c)):=by
 obtain⟨b0,A0,n0,c0,E0,k0,f0,rfl,rfl,rfl,hpr⟩:=hE.lead
 have HP:=lh9 (λw' (hb:Below w.heap.size w w')=>hpr.below hb)
 have HC:=lh9 (λw' (hb:Below w.heap.size w w')=>(hE.below hb).cells)
 have HT:=lh9 (λw' (hb:Below w.heap.size w w')=>hT.on hb)
 have HR:=lh9 (λw' (hb:Below w.heap.size w w')=>hr.keep hb)
 have HY:=lh9 (λw' (hb:Below w.heap.size w w')=>hy.keep hb)
 have HS1:=lh9 (zy.at_ (k:=c) (by rw [hy.len];exact hc))
 have HS2:=lh9 (zr.at_ (k:=c) (by rw [hr.len];exact hc))
 have HZR:=lh9 zr
 have HZY:=lh9 zy
 have HZP:=lh9 zp
 have HNP:=lh9 hp
 obtain⟨ady,b1,B1,m1,d1,E1,u1,v1,rfl,-,h0,h1,h2,hyx⟩:=hy.get (Below.refl _ _) hc
 obtain⟨adr,b2,B2,m2,d2,E2,u2,v2,rfl,-,h3,h4,h5,hrx⟩:=hr.get (Below.refl _ _) hc
 have HX1:=lh9 (λw' (hb:Below w.heap.size w w')=>hyx.below hb)
 have HX2:=lh9 (λw' (hb:Below w.heap.size w w')=>hrx.below hb)
 have i1:(0:Int)<=(c:Int):=by omega
 have i2:(c:Int)<(m:Int):=by omega
 have i3:c<m:=hc
 have HQ:Hid (zdl st.p row by_ c=zaS st.p⁻¹ (zib (zaS (by_.getD c 0) row) (-row.getD c 0) by_)):=rfl
 rw [HQ.out]
 generalize by_.getD c 0=yc at*
 generalize row.getD c 0=rc9 at*
 unfold zdI
 clear hT hE hr hy zr zy zp hp hpr hyx hrx hc HQ
 go_enter Tryz.func181,Tryz.ntmps181
 go_wp2_with fail
 have HB:=lh9 ((Below.refl w.heap.size w).drew)
 refine rg (csc h0 (csc h1 (csc h2 (csc h3 (csc h4 (csc h5 csn)))))) (λhHeld=>?_)
 clear h0 h1 h2 h3 h4 h5
 generalize w.drew=D at*
 refine tk 0 ?_
 refine tk 1 ?_
 refine tk 2 ?_
 refine tk 3 ?_
 refine tk 4 ?_
 refine tk 6 ?_
 refine tk 7 ?_
 refine tk 8 ?_
 refine tk 9 ?_
 refine tk 11 ?_
 refine rc 5 (λKK hK9=>?_)
 go_simp
 (with_reducible refine(zbK (HT.out _ HB.out) (HX1.out _ HB.out) (HR.out _ HB.out) HS1.out HZR.out).mono ?_)
 rintro eo w1 ⟨g1,rfl,hg1,ho1,hb⟩
 refine hK9.out _ _ (Cs.below hHeld hb) (λhHeld=>?_)
 clear hK9 KK
 have HB:=lh9 (zab HB.out hb)
 have HO1:=lh9 (zaJ ho1)
 clear hb ho1 hg1
 refine rc 10 (λKK hK9=>?_)
 go_simp
 (with_reducible refine(ziP rc9 b2 B2 m2 d2 E2 u2 v2 _ (HT.out _ HB.out) (HX2.out _ HB.out) (HS2.out.fit (HX2.out _ HB.out) (by omega))).mono ?_)
 rintro eo w2 ⟨b3,A3,n3,c3,E3,k3,f3,rfl,hw3,hb⟩
 refine hK9.out _ _ (Cs.below hHeld hb) (λhHeld=>?_)
 clear hK9 KK
 have HB:=lh9 (zab HB.out hb)
 have HO1:=lh9 (HO1.out.keep hb)
 have HN:=lh9 hw3
 clear hb hw3
 refine rc 12 (λKK hK9=>?_)
 go_simp
 (with_reducible refine(vec_addt (HT.out _ HB.out) HO1.out HN.out (HY.out _ HB.out) (zau.scale HS1.out HZR.out) HS2.out.neg HZY.out).mono ?_)
 rintro eo w3 ⟨g4,rfl,hg4,ho4,hb⟩
 refine hK9.out _ _ (Cs.below hHeld hb) (λhHeld=>?_)
 clear hK9 KK
 have HB:=lh9 (zab HB.out hb)
 have HO4:=lh9 (zaJ ho4)
 have HZ4:Hid (zau ((K+K)+(K+K)+1) (zib (zaS yc row) (-rc9) by_)):=zau.addT (zau.scale HS1.out HZR.out) HS2.out.neg HZY.out
 clear hb ho4 hg4 HO1 HN
 refine tk 13 ?_
 refine tk 14 ?_
 refine tk 15 ?_
 refine tk 16 ?_
 refine tk 17 ?_
 refine rdn ?_
 clear hHeld
 obtain⟨-,-,p2,p3,p4,-⟩:=HC.out _ HB.out
 go_wp2_with fail
 clear p2 p3 p4
 (with_reducible refine(ziO st.p b0 A0 n0 c0 E0 k0 f0 _ (HT.out _ HB.out) (HP.out _ HB.out) (HZP.out.fit (HP.out _ HB.out) (by omega)) HNP.out).mono ?_)
 rintro eo w5 ⟨b5,A5,n5,c5,E5,k5,f5,rfl,hw5,hb⟩
 have HB:=lh9 (zab HB.out hb)
 have HO4:=lh9 (HO4.out.keep hb)
 obtain⟨bx1,bx2,-⟩:=zav w5 41 #[.bool b5,.slice A5 n5 c5,.slice E5 k5 f5]
 obtain⟨p0,p1,p2⟩:=bx2.c3
 have HI:=lh9 (hw5.below bx1)
 have HB:=lh9 (zab HB.out bx1)
 have HO4:=lh9 (HO4.out.keep bx1)
 clear hb hw5 bx1 bx2
 go_wp2_with fail
 clear p0 p1 p2
 generalize w5.alloc (.cells #[.bool b5,.slice A5 n5 c5,.slice E5 k5 f5] 41)=W6 at*
 (with_reducible refine(zbK (HT.out _ HB.out) HI.out HO4.out HZP.out.inv HZ4.out).mono ?_)
 rintro eo w7 ⟨g7,rfl,hg7,ho7,hb⟩
 have HB2:=lh9 (zab HB.out hb)
 have HG7:w.heap.size<=g7:=Nat.le_trans HB.out.size hg7
 have HO7:=lh9 ho7
 clear hb ho7 hg7 HB HO4 HI
 go_wp2
 go_ret
 exact⟨g7,rfl,HG7,HO7.out,HB2.out⟩
end
structure Alt (n:Nat)(F:(Nat->Nat->Rat)->Rat):Prop where
 congr:∀M N:Nat->Nat->Rat,(∀i,i<n->∀j,j<n->M i j=N i j)->F M=F N
 lin:∀(M:Nat->Nat->Rat) (k:Nat),k<n->∀(a b:Rat) (u v:Nat->Rat),F (zaQ M k λi=>a*u i+b*v i)=a*F (zaQ M k u)+b*F (zaQ M k v)
 same:∀(M:Nat->Nat->Rat) (k l:Nat),k<n->l<n->k≠l->(∀i,i<n->M i k=M i l)->F M=0
theorem Alt.det_ (n:Nat):Alt n (zaF n):=⟨λM N h=>zaV h,λM k hk a b u v=>zdd M hk a b u v,λM k l hk hl hne h=>by
 rw [zaV (N:=zaQ M k λi=>M i l) λi hi j _=>?_]
 ·exact zfb hk hl hne
 ·by_cases e:j=k
  ·rw [e,zbk];exact h i hi
  ·rw [zbp _ e]⟩
theorem zhV {M:Nat->Nat->Rat}{k l:Nat}(h:k≠l)(u v:Nat->Rat):zaQ (zaQ M k u) l v=zaQ (zaQ M l v) k u:=by
 funext i j
 unfold zaQ
 by_cases e:j=l
 ·rw [if_pos e,if_neg (by omega),if_pos e]
 ·rw [if_neg e,if_neg e]
theorem Alt.swap {n:Nat}{F:(Nat->Nat->Rat)->Rat}(h:Alt n F){M:Nat->Nat->Rat}{k l:Nat}(hk:k<n)(hl:l<n)(hne:k≠l)(u v:Nat->Rat):F (zaQ (zaQ M k u) l v)= -F (zaQ (zaQ M k v) l u):=by
 have same:∀w:Nat->Rat,F (zaQ (zaQ M k w) l w)=0:=λw=>h.same _ k l hk hl hne λi _=>by
  rw [zbk,zbp _ hne,zbk]
 have e1:∀a b x y:Nat->Rat,F (zaQ (zaQ M k a) l λi=>1*x i+1*y i)=1*F (zaQ (zaQ M k a) l x)+1*F (zaQ (zaQ M k a) l y):=λa b x y=>h.lin _ l hl 1 1 x y
 have e2:∀b x y:Nat->Rat,F (zaQ (zaQ M k λi=>1*x i+1*y i) l b)=1*F (zaQ (zaQ M k x) l b)+1*F (zaQ (zaQ M k y) l b):=λb x y=>by
  rw [zhV hne,zhV hne,zhV hne];exact h.lin _ k hk 1 1 x y
 have h1:=same λi=>1*u i+1*v i
 rw [e1 _ u,e2,e2,same u,same v] at h1
 grind
theorem Alt.sum {n:Nat}{F:(Nat->Nat->Rat)->Rat}(h:Alt n F)(M:Nat->Nat->Rat){k:Nat}(hk:k<n)(f:Nat->Rat)(u:Nat->Nat->Rat):∀q,F (zaQ M k λi=>zaw q λl=>f l*u l i)=zaw q λl=>f l*F (zaQ M k (u l))
 |0=>by
   have e:=h.lin M k hk 0 0 (λ_=>0) (λ_=>0)
   have e2:(zaQ M k λi=>zaw 0 λl=>f l*u l i)=zaQ M k λi=>0*(λ_:Nat=>(0:Rat)) i+0*(λ_:Nat=>(0:Rat)) i:=by
    congr 1;funext i;show(0:Rat)=0*0+0*0;grind
   rw [e2,e];show _=(0:Rat);grind
 |q+1=>by
   have e2:(zaQ M k λi=>zaw (q+1) λl=>f l*u l i)=zaQ M k λi=>1*(λi=>zaw q λl=>f l*u l i) i+f q*u q i:=by
    congr 1;funext i;rw [zaL];grind
   rw [e2,h.lin M k hk,h.sum M hk f u q,zaL,Rat.one_mul]
theorem zkW:∀{m:Nat} {L:List Nat},L.Nodup->(∀x ∈ L,x<m)->L.length<=m
 |0,L,_,h=>by
   cases L with
   |nil=>exact Nat.le_refl _
   |cons x xs=>exact absurd (h x List.mem_cons_self) (by omega)
 |m+1,L,hn,h=>by
   have h1:=zkW (m:=m) (hn.erase m) λx hx=>by
    have h2:=hn.mem_erase_iff.1 hx
    have:=h x h2.2
    have:=h2.1
    omega
   by_cases hm:m ∈ L
   ·rw [List.length_erase_of_mem hm] at h1;omega
   ·rw [List.erase_of_not_mem hm] at h1;omega
def zda:Nat->Nat->Rat:=λi j=>if i=j then 1 else 0
theorem Alt.units {n:Nat}{F:(Nat->Nat->Rat)->Rat}(h:Alt n F)(h1:F zda=0):∀(d t:Nat),t+d=n->∀(f:Nat->Nat),(∀j,j<n->f j<n)->(∀j,j<t->f j=j)->F (λi j=>if i=f j then 1 else 0)=0
 |0,t,ht,f,hf,hfix=>by
   rw [h.congr _ zda λi _ j hj=>?_]
   ·exact h1
   ·show(if i=f j then(1:Rat) else 0)=if i=j then 1 else 0
    rw [hfix j (by omega)]
 |d+1,t,ht,f,hf,hfix=>by
   by_cases hj:∃j,j<n/\f j=t
   ·obtain⟨j,hjn,hjt⟩:=hj
    by_cases e:j=t
    ·exact h.units h1 d (t+1) (by omega) f hf λq hq=>by
      by_cases e2:q=t
      ·rw [e2,<-e,hjt,e]
      ·exact hfix q (by omega)
    ·have hjgt:t<j:=by
      rcases Nat.lt_trichotomy j t with a|a|a
      ·have:=hfix j a;omega
      ·exact absurd a e
      ·exact a
     have e3:=h.swap (M:=λi j=>if i=f j then 1 else 0) (by omega:t<n) hjn (by omega) (λi=>if i=f t then 1 else 0) (λi=>if i=f j then 1 else 0)
     have e4:(λi j=>if i=f j then(1:Rat) else 0)=zaQ (zaQ (λi j=>if i=f j then 1 else 0) t λi=>if i=f t then 1 else 0) j λi=>if i=f j then 1 else 0:=by
      funext i q
      unfold zaQ
      by_cases q1:q=j
      ·rw [if_pos q1,q1]
      ·rw [if_neg q1]
       by_cases q2:q=t
       ·rw [if_pos q2,q2]
       ·rw [if_neg q2]
     rw [e4,e3]
     have e5:=h.units h1 d (t+1) (by omega) (λq=>if q=t then t else if q=j then f t else f q) (λq hq=>by
      show(if q=t then t else if q=j then f t else f q)<n
      split
      ·omega
      ·split
       ·exact hf t (by omega)
       ·exact hf q hq) (λq hq=>by
      show(if q=t then t else if q=j then f t else f q)=q
      by_cases q1:q=t
      ·rw [if_pos q1,q1]
      ·rw [if_neg q1,if_neg (by omega)];exact hfix q (by omega))
     have e6:(λi q=>if i=(if q=t then t else if q=j then f t else f q) then(1:Rat) else 0)=zaQ (zaQ (λi j=>if i=f j then 1 else 0) t λi=>if i=f j then 1 else 0) j λi=>if i=f t then 1 else 0:=by
      funext i q
      unfold zaQ
      by_cases q1:q=j
      ·have hv:(if q=t then t else if q=j then f t else f q)=f t:=by rw [if_neg (by omega),if_pos q1]
       rw [hv,if_pos q1]
      ·by_cases q2:q=t
       ·have hv:(if q=t then t else if q=j then f t else f q)=t:=if_pos q2
        rw [hv,if_neg q1,if_pos q2,hjt]
       ·have hv:(if q=t then t else if q=j then f t else f q)=f q:=by rw [if_neg q2,if_neg q1]
        rw [hv,if_neg q1,if_neg q2]
     rw [<-e6,e5,Rat.neg_zero]
   ·-- t is missing:two are equal
    have hd:∃k l,k<n/\l<n/\k≠l/\f k=f l:=by
     refine Classical.byContradiction λhno=>?_
     have hnd:((List.range n).map f++[t]).Nodup:=by
      rw [List.nodup_append]
      refine⟨?_,by simp,λa ha b hb=>?_⟩
      ·rw [List.nodup_iff_pairwise_ne,List.pairwise_map]
       refine List.Pairwise.imp_of_mem (fun{a b} ha hb hab=>?_) (List.pairwise_lt_range (n:=n))
       exact λe=>hno ⟨a,b,List.mem_range.1 ha,List.mem_range.1 hb,by omega,e⟩
      ·obtain⟨q,hq,rfl⟩:=List.mem_map.1 ha
       rw [List.mem_singleton.1 hb]
       exact λe=>hj ⟨q,List.mem_range.1 hq,e⟩
     have:=zkW (m:=n) hnd λx hx=>by
      rcases List.mem_append.1 hx with hx|hx
      ·obtain⟨q,hq,rfl⟩:=List.mem_map.1 hx
       exact hf q (List.mem_range.1 hq)
      ·rw [List.mem_singleton.1 hx];omega
     rw [List.length_append,List.length_map,List.length_range] at this
     simp at this
     omega
    obtain⟨k,l,hk,hl,hne,e⟩:=hd
    exact h.same _ k l hk hl hne λi _=>by
     show(if i=f k then(1:Rat) else 0)=if i=f l then 1 else 0
     rw [e]
theorem Alt.all0 {n:Nat}{F:(Nat->Nat->Rat)->Rat}(h:Alt n F)(h1:F zda=0):∀(t:Nat),t<=n->∀(M:Nat->Nat->Rat) (f:Nat->Nat),(∀j,j<n->f j<n)->(∀j,t<=j->j<n->∀i,i<n->M i j=if i=f j then 1 else 0)->F M=0
 |0,_,M,f,hf,hM=>by
   rw [h.congr M (λi j=>if i=f j then 1 else 0) λi hi j hj=>hM j (by omega) hj i hi]
   exact h.units h1 n 0 (by omega) f hf λj hj=>absurd hj (by omega)
 |t+1,ht,M,f,hf,hM=>by
   have e1:F M=F (zaQ M t λi=>zaw n λl=>M l t*(λl i=>if i=l then(1:Rat) else 0) l i):=h.congr _ _ λi hi j hj=>by
    by_cases e:j=t
    ·rw [e,zbk]
     exact(zan (f:=λl=>M l t*if i=l then(1:Rat) else 0) (g:=λl=>M l t*if l=i then 1 else 0) λl _=>by
      by_cases q:i=l
      ·rw [if_pos q,if_pos q.symm]
      ·rw [if_neg q,if_neg (Ne.symm q)]).trans (zlk hi λl=>M l t)|>.symm
    ·rw [zbp _ e]
   rw [e1,h.sum M (by omega) (λl=>M l t) (λl i=>if i=l then(1:Rat) else 0) n]
   refine zbB λl hl=>?_
   rw [h.all0 h1 t (by omega) (zaQ M t λi=>if i=l then 1 else 0) (λj=>if j=t then l else f j) (λj hj=>by
    show(if j=t then l else f j)<n
    split
    ·exact hl
    ·exact hf j hj) λj h2 h3 i hi=>?_,Rat.mul_zero]
   by_cases e:j=t
   ·rw [e,zbk]
    show _=if i=(if t=t then l else f t) then(1:Rat) else 0
    rw [if_pos rfl]
   ·rw [zbp _ e]
    show _=if i=(if j=t then l else f j) then(1:Rat) else 0
    rw [if_neg e];exact hM j (by omega) h3 i hi
theorem Alt.one_ {n:Nat}{F G:(Nat->Nat->Rat)->Rat}(h:Alt n F)(k:Alt n G)(M:Nat->Nat->Rat):F M*G zda=G M*F zda:=by
 have hs:Alt n λM=>F M*G zda - G M*F zda:=⟨λM N e=>by
   show F M*G zda - G M*F zda=F N*G zda - G N*F zda
   rw [h.congr M N e,k.congr M N e],λM q hq a b u v=>by
   show F _*G zda - G _*F zda=_
   rw [h.lin M q hq,k.lin M q hq];grind,λM q l hq hl hne e=>by
   show F M*G zda - G M*F zda=0
   rw [h.same M q l hq hl hne e,k.same M q l hq hl hne e];grind⟩
 have:=hs.all0 (by show F zda*G zda - G zda*F zda=0;grind) n (Nat.le_refl _) M (λj=>j) (λj hj=>hj) λj h1 h2=>absurd h2 (by omega)
 have h2:F M*G zda - G M*F zda=0:=this
 grind
theorem zfA:∀n,zaF n zda=1
 |0=>rfl
 |n+1=>by
   rw [zfz n λi hi=>by show(if i=n then(1:Rat) else 0)=0;rw [if_neg (by omega)],zfA n]
   show(if n=n then(1:Rat) else 0)*1=1
   rw [if_pos rfl];decide+kernel
def zjF (n:Nat)(A B:Nat->Nat->Rat):Nat->Nat->Rat:=λi j=>zaw n λl=>A i l*B l j
theorem zmE (n:Nat)(A B:Nat->Nat->Rat):zaF n (zjF n A B)=zaF n A*zaF n B:=by
 have ha:Alt n λM=>zaF n (zjF n A M):=⟨λM N e=>zaV λi _ j hj=>zan λl hl=>by rw [e l hl j hj],λM k hk a b u v=>by
   show zaF n _=_
   have e:∀w:Nat->Rat,zjF n A (zaQ M k w)=zaQ (zjF n A M) k λi=>zaw n λl=>A i l*w l:=λw=>by
    funext i j
    unfold zjF
    by_cases q:j=k
    ·rw [q,zbk];exact zan λl _=>by rw [zbk]
    ·rw [zbp _ q];exact zan λl _=>by rw [zbp _ q]
   rw [e,e,e]
   have e2:(λi=>zaw n λl=>A i l*(a*u l+b*v l))=λi=>a*(λi=>zaw n λl=>A i l*u l) i+b*(λi=>zaw n λl=>A i l*v l) i:=by
    funext i
    show _=a*zaw n _+b*zaw n _
    rw [zaK,zaK,<-zco]
    exact zan λl _=>by grind
   rw [e2,zdd _ hk],λM k l hk hl hne e=>(Alt.det_ n).same _ k l hk hl hne λi _=>zan λq hq=>by rw [e q hq]⟩
 have h1:=ha.one_ (Alt.det_ n) B
 rw [zfA,Rat.mul_one] at h1
 have e3:zaF n (zjF n A zda)=zaF n A:=zaV λi _ j hj=>by
  unfold zjF zda
  exact zlk hj λl=>A i l
 have h2:zaF n (zjF n A B)=zaF n B*zaF n (zjF n A zda):=h1
 rw [h2,e3,Rat.mul_comm]
section
variable {w:World}
theorem en_next1:∀(args:Array Value) (w':World),Sem.run Tryz.prog (callFunc 180 args) w'=.ok (.enter 180 args) w':=Go.Proofs.enters_of Tryz.func180 (by kernel_rfl) rfl
theorem cl_next {gc m d c K:Nat}{V:oA9}{L:List Rat}(hT:zai w)(hk:Blk w gc 3 #[.int .i64 (c:Int)])(hv:zaz w V m d L)(hc:c<m)(hz:zau K L)(hK:K<=67108864:=by omega):
  Calls Tryz.prog 180 #[.slice V m d,.pointer (some ⟨gc,0,none⟩)] w (λe w'=>e=.returned (.bool (!decide (L.getD c 0=0)))/\Below w.heap.size w w'):=by
 have g0:=hk.c1
 have HS:=lh9 (hz.at_ (k:=c) (by rw [hv.len];exact hc))
 obtain⟨ad,b1,B1,m1,d1,E1,u1,v1,rfl,-,h0,h1,h2,hx⟩:=hv.get (Below.refl _ _) hc
 have i1:(0:Int)<=(c:Int):=by omega
 have i2:(c:Int)<(m:Int):=by omega
 have i3:c<m:=hc
 generalize L.getD c 0=x at*
 obtain⟨t,ht⟩:∃t,decide (x=0)=t:=⟨_,rfl⟩
 rw [ht]
 have HZQ:=lh9 (zoL ht hT hx HS.out hK)
 clear hk hv hz hx hc hT ht
 go_enter Tryz.func180,Tryz.ntmps180
 go_wp2_with fail
 clear h0 h1 h2 g0
 refine HZQ.out.mono ?_
 rintro eo w1 ⟨rfl,hb⟩
 have HB:=lh9 hb
 clear hb HZQ
 go_wp2
 go_ret
 exact⟨rfl,HB.out⟩
def ziy (c:Nat)(Ls:List (List Rat)):Int:=if Ls.findIdx (λrow=> !decide (row.getD c 0=0))<Ls.length then((Ls.findIdx (λrow=> !decide (row.getD c 0=0)):Nat):Int) else -1
theorem idxZ_at {c k:Nat}{Ls:List (List Rat)}(hk:k<Ls.length)(h0:∀j,j<k->(Ls.getD j []).getD c 0=0)(h1:(Ls.getD k []).getD c 0≠0):ziy c Ls=(k:Int):=by
 have e:Ls.findIdx (λrow=> !decide (row.getD c 0=0))=k:=by
  rw [List.findIdx_eq hk]
  have hg:∀j (hj:j<Ls.length),Ls.getD j []=Ls[j]:=λj hj=>by rw [List.getD_eq_getElem?_getD,List.getElem?_eq_getElem hj];rfl
  refine⟨by rw [hg k hk] at h1;simpa using h1,λj hj=>?_⟩
  have:=h0 j hj
  rw [hg j (by omega)] at this
  simpa using this
 unfold ziy
 rw [e,if_pos hk]
theorem zqB {x:Rat}(h:(!decide (x=0))=true):x≠0:=by simpa using h
theorem zqw {c:Nat}{Ls:List (List Rat)}(h0:∀j,j<Ls.length->(Ls.getD j []).getD c 0=0):ziy c Ls= -1:=by
 unfold ziy
 rw [if_neg]
 intro h
 have h1:=List.findIdx_getElem (p:=λrow:List Rat=> !decide (row.getD c 0=0)) (xs:=Ls) (w:=h)
 have h2:=h0 _ h
 rw [List.getD_eq_getElem?_getD (l:=Ls),List.getElem?_eq_getElem h] at h2
 exact zqB h1 h2
theorem zjr {z gc q n m c K:Nat}{Q:oA9}{M:List (List Rat)}(hT:zai w)(h:zaB (VZ z) w Q n M)(hk:Blk w gc 3 #[.int .i64 (c:Int)])(hc:c<m)(hd:∀L ∈ M,L.length=m)(hz:zax K M)(hn:n<=1048576)(hK:K<=67108864:=by omega):
  Calls Tryz.prog 167 #[.slice Q n q,.func (.func 180) #[] #[.pointer (some ⟨gc,0,none⟩)]] w (λe w'=>e=.returned (.int .i64 (ziy c M))/\Below w.heap.size w w'):=by
 have hl:=h.len
 have HR:=lh9 h
 have HT:=lh9 (λw' (hb:Below w.heap.size w w')=>hT.on hb)
 have HK:=lh9 (λw' (hb:Below w.heap.size w w')=>zaa hb hk)
 have HD:Hid (∀k,k<n->(M.getD k []).length=m):=λk hk=>hd _ (List.mem_of_getElem? (zbE (by omega)))
 have HZ:Hid (∀k,k<n->zau K (M.getD k [])):=λk hk=>hz.row (by omega)
 have HI:Hid (∀k,k<n->(∀j,j<k->(M.getD j []).getD c 0=0)->(M.getD k []).getD c 0≠0->ziy c M=(k:Int)):=λk hk=>idxZ_at (by omega)
 have HN:Hid ((∀j,j<n->(M.getD j []).getD c 0=0)->ziy c M= -1):=λh0=>zqw (by rw [hl];exact h0)
 have hEn:=en_next1
 have hB:=Below.refl w.heap.size w
 have i0:(0:Int)<=(n:Int):=by omega
 have HC:=lh9 hc
 obtain⟨zi,hzi⟩:∃zi,ziy c M=zi:=⟨_,rfl⟩
 rw [hzi] at HI HN⊢
 clear h hk hl hd hz hT hc hzi
 go_enter Tryz.func167,Tryz.ntmps167
 go_wp2_with fail
 go_loopg [8] (n+1) (λg ix wr=>∃(k:Nat),k<=n/\n<g+k/\ix=.int .i64 k/\Hid (∀j,j<k->(M.getD j []).getD c 0=0)/\Below w.heap.size w wr)
 case atStart=>exact⟨0,Nat.zero_le _,by omega,rfl,λj hj=>(by cases hj),hB⟩
 case round=>
  clear hB
  obtain⟨k,hkn,hg,rfl,hz0,hB⟩:=hrel
  by_cases hlt:k<n
  ·have hd1:decide ((k:Int)<(n:Int))=true:=decide_eq_true (by omega)
   have i1:(0:Int)<=(k:Int):=by omega
   have i2:(k:Int)<(n:Int):=by omega
   obtain⟨ad,B,d,rfl,-,hc0,hv⟩:=HR.out.get (zcB z) hB hlt (HD.out k hlt)
   have HZK:=lh9 (HZ.out k hlt)
   have HIK:=lh9 (HI.out k hlt hz0.out)
   have HB:=lh9 hB
   have HSU:Hid ((M.getD k []).getD c 0=0->∀j,j<k+1->(M.getD j []).getD c 0=0):=λe j hj=>by
    rcases Nat.lt_or_ge j k with a|a
    ·exact hz0.out j a
    ·rw [show j=k by omega];exact e
   have HCL:=lh9 (cl_next (HT.out _ hB) (HK.out _ hB) hv.1 HC.out HZK.out hK)
   clear hB hv
   by_cases h0:(M.getD k []).getD c 0=0
   ·have HS2:=lh9 (HSU.out h0)
    have HCL:=HCL.out
    rw [h0,show(!decide ((0:Rat)=0))=false from rfl] at HCL
    have HCL:=lh9 HCL
    clear h0 HSU HIK
    go_wp2_with fail
    refine HCL.out.mono ?_
    rintro eo w3 ⟨rfl,hb⟩
    have HB2:=lh9 (zab HB.out hb)
    clear hb hc0
    go_wp2
    go_roundg (n - k)
    case measure=>omega
    case rel=>exact⟨k+1,by omega,by omega,by go_num,HS2.out,HB2.out⟩
   ·have HE:=lh9 (HIK.out h0)
    have HCL:=HCL.out
    rw [decide_eq_false h0,show(!false)=true from rfl] at HCL
    have HCL:=lh9 HCL
    clear h0 HSU HIK
    go_wp2_with fail
    refine HCL.out.mono ?_
    rintro eo w3 ⟨rfl,hb⟩
    have HB2:=lh9 (zab HB.out hb)
    clear hb hc0
    go_wp2
    go_ret
    exact⟨by rw [HE.out];rfl,HB2.out⟩
  ·have hk9:k=n:=by omega
   subst hk9
   have hd1:decide ((k:Int)<(k:Int))=false:=by simp
   have HE:=lh9 (HN.out hz0.out)
   have HB2:=lh9 hB
   clear hB
   go_wp2
   go_ret
   exact⟨by rw [HE.out];rfl,HB2.out⟩
end
