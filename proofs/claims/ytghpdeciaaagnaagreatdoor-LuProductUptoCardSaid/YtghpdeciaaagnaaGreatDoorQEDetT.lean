/- What this claim leans on. -/
import Derived.Test.YtghpdeciaaagnaaGreatDoorQMGrid
import Derived.Laws.Append
namespace Go.Proofs.YtghpdeciaaagnaaGreatDoor
open Go Go.RowKit Go.Proofs.Tryz
set_option maxHeartbeats 16000000
set_option linter.unusedVariables false
def zbl (M:Nat->Nat->Rat)(k:Nat)(v:Nat->Rat):Nat->Nat->Rat:=λi j=>if i=k then v j else M i j
theorem zhU (M:Nat->Nat->Rat)(v:Nat->Rat)(c:Nat):mnr (zbl M 0 v) c=mnr M c:=by
 funext i j;unfold mnr zbl;rw [if_neg om9]
theorem zfS (M:Nat->Nat->Rat)(k:Nat)(v:Nat->Rat)(c:Nat):mnr (zbl M (k+1) v) c=zbl (mnr M c) k λj=>v (skp c j):=by
 funext i j;unfold mnr zbl
 by_cases e:i=k
 ·rw [if_pos e,if_pos om9]
 ·rw [if_neg e,if_neg om9]
theorem zeP:∀{n:Nat} (M:Nat->Nat->Rat) {k:Nat} (_:k<n) (a b:Rat) (u v:Nat->Rat),zaJ n (zbl M k λj=>a*u j+b*v j)=a*zaJ n (zbl M k u)+b*zaJ n (zbl M k v)
 |0,M,k,hk,_,_,_,_=>by omega
 |n+1,M,0,hk,a,b,u,v=>by
   rw [zbb,zbb,zbb,zaZ,zaZ,<-zcj];refine zal λc _=>?_;rw [zhU,zhU,zhU];show sg c*(a*u c+b*v c)*_=a*(sg c*u c*_)+b*(sg c*v c*_)
   grind
 |n+1,M,k+1,hk,a,b,u,v=>by
   rw [zbb,zbb,zbb,zaZ,zaZ,<-zcj];refine zal λc _=>?_;rw [zfS,zfS,zfS,zeP (mnr M c) om9 a b];have e:∀w:Nat->Rat,zbl M (k+1) w 0 c=M 0 c:=λw=>by unfold zbl;rw [if_neg om9]
   rw [e,e,e]
   grind
theorem zpb (k:Nat)(f:Nat->Rat):zav (k+1) f=f 0+zav k λi=>f (i+1):=by
 induction k with
 |zero=>rw [zaD];show(0:Rat)+f 0=f 0+0;grind
 |succ k ih=>rw [zaD,ih,zaD];grind
theorem skp_skp {c d j:Nat}(h:d<=c):skp (c+1) (skp d j)=skp d (skp c j):=by
 unfold skp;by_cases h1:j<d
 ·rw [if_pos h1,if_pos (by omega:j<c),if_pos om9,if_pos h1]
 ·rw [if_neg h1];by_cases h2:j<c
  ·rw [if_pos h2,if_pos om9,if_neg h1]
  ·rw [if_neg h2,if_neg om9,if_neg om9]
theorem zms {n:Nat}{M:Nat->Nat->Rat}(h:∀j,M 0 j=M 1 j):zaJ (n+2) M=0:=by
 obtain⟨g,hg⟩:∃g:Nat->Nat->Rat,∀c d,g c d=sg c*M 0 c*(sg d*M 1 (skp c d)*zaJ n (mnr (mnr M c) d)):=⟨_,λ_ _=>rfl⟩;have e1:zaJ (n+2) M=zav (n+2) λc=>zav (n+1) λd=>g c d:=by
  rw [zbb];refine zal λc _=>?_;rw [zbb,zaZ];exact zal λd _=>(hg c d).symm
 have a:∀c d,d<=c->g (c+1) d= -g d c:=λc d hd=>by
  rw [hg,hg];have s1:skp (c+1) d=d:=by unfold skp;rw [if_pos om9]
  have s2:skp d c=c+1:=by unfold skp;rw [if_neg om9]
  have s3:mnr (mnr M (c+1)) d=mnr (mnr M d) c:=by
   funext i j;unfold mnr;rw [skp_skp hd]
  rw [s1,s2,s3,h (c+1),h d,zpQ]
  grind
 have e2:∀c d,g c d=(if d<c then g c d else 0)+(if d<c then 0 else g c d):=λc d=>by
  by_cases q:d<c
  ·rw [if_pos q,if_pos q,Rat.add_zero]
  ·rw [if_neg q,if_neg q,Rat.zero_add]
 have e3:(zav (n+2) λc=>zav (n+1) λd=>g c d)=(zav (n+2) λc=>zav (n+1) λd=>if d<c then g c d else 0)+zav (n+2) λc=>zav (n+1) λd=>if d<c then 0 else g c d:=by
  rw [<-zcj];refine zal λc _=>?_;rw [<-zcj];exact zal λd _=>e2 c d
 have e4:(zav (n+2) λc=>zav (n+1) λd=>if d<c then g c d else 0)=zav (n+1) λc=>zav (n+1) λd=>if d<=c then g (c+1) d else 0:=by
  rw [zpb,zbq λd _=>by rw [if_neg om9],Rat.zero_add];exact zal λc _=>zal λd _=>by
   by_cases q:d<=c
   ·rw [if_pos q,if_pos om9]
   ·rw [if_neg q,if_neg om9]
 have e5:(zav (n+2) λc=>zav (n+1) λd=>if d<c then 0 else g c d)=zav (n+1) λd=>zav (n+1) λc=>if c<=d then g c d else 0:=by
  rw [zic];refine zal λd hd=>?_;rw [zaD,if_pos om9,Rat.add_zero];exact zal λc _=>by
   by_cases q:c<=d
   ·rw [if_pos q,if_neg om9]
   ·rw [if_neg q,if_pos om9]
 rw [e1,e3,e4,e5,<-zcj];refine zbq λc _=>?_;rw [<-zcj];refine zbq λd _=>?_;by_cases q:d<=c
 ·rw [if_pos q,if_pos q,a c d q];grind
 ·rw [if_neg q,if_neg q];grind
theorem zlS (M:Nat->Nat->Rat)(k:Nat)(v:Nat->Rat)(j:Nat):zbl M k v k j=v j:=if_pos rfl
theorem zgw (M:Nat->Nat->Rat){k i:Nat}(h:i≠k)(v:Nat->Rat)(j:Nat):zbl M k v i j=M i j:=if_neg h
theorem zib {M:Nat->Nat->Rat}{k l:Nat}(h:k≠l)(u v:Nat->Rat):zbl (zbl M k u) l v=zbl (zbl M l v) k u:=by
 funext i j
 unfold zbl;by_cases e:i=l
 ·rw [if_pos e,if_neg om9,if_pos e]
 ·rw [if_neg e,if_neg e]
theorem rswap {n k l:Nat}(hk:k<n)(hl:l<n)(c:k≠l)(same:∀M:Nat->Nat->Rat,(∀j,M k j=M l j)->zaJ n M=0)(M:Nat->Nat->Rat)(u v:Nat->Rat):zaJ n (zbl (zbl M k u) l v)= -zaJ n (zbl (zbl M k v) l u):=by
 have s:∀w:Nat->Rat,zaJ n (zbl (zbl M k w) l w)=0:=λw=>same _ λj=>by rw [zlS,zgw _ c,zlS]
 have e1:∀a x y:Nat->Rat,zaJ n (zbl (zbl M k a) l λj=>1*x j+1*y j)=1*zaJ n (zbl (zbl M k a) l x)+1*zaJ n (zbl (zbl M k a) l y):=λa x y=>zeP _ hl 1 1 x y;have e2:∀b x y:Nat->Rat,zaJ n (zbl (zbl M k λj=>1*x j+1*y j) l b)=1*zaJ n (zbl (zbl M k x) l b)+1*zaJ n (zbl (zbl M k y) l b):=λb x y=>by
  rw [zib c,zib c,zib c];exact zeP _ hk 1 1 x y
 have h1:=s λj=>1*u j+1*v j;rw [e1,e2,e2,s u,s v] at h1
 grind
theorem zeQ:∀{n:Nat} {M:Nat->Nat->Rat} {k l:Nat},k<l->l<n->(∀j,M k j=M l j)->zaJ n M=0
 |0,_,_,_,_,h,_=>by omega
 |n+1,M,k+1,l,hkl,hl,h=>by
   rw [zbb];refine zbq λc _=>?_;obtain⟨l',rfl⟩:∃q,l=q+1:=⟨l - 1,om9⟩;rw [zeQ (n:=n) (M:=mnr M c) (k:=k) (l:=l') om9 om9 λj=>h _,Rat.mul_zero]
 |n+1,M,0,l,hkl,hl,h=>by
   obtain⟨n',rfl⟩:∃q,n=q+1:=⟨n - 1,om9⟩;by_cases e:l=1
   ·subst e;exact zms h
   ·-- rows 1 and l are exchanged:below the first row all rows are known
    have e1:zaJ (n'+2) M= -zaJ (n'+2) (zbl (zbl M 1 (M l)) l (M 1)):=by
     rw [zbb,zbb,<-zjS];refine zal λc _=>?_;obtain⟨l',rfl⟩:∃q,l=q+1:=⟨l - 1,om9⟩;have f1:zbl (zbl M 1 (M (l'+1))) (l'+1) (M 1) 0 c=M 0 c:=by rw [zgw _ om9,zgw _ om9]
     have f2:mnr (zbl (zbl M (0+1) (M (l'+1))) (l'+1) (M 1)) c=zbl (zbl (mnr M c) 0 λj=>M (l'+1) (skp c j)) l' λj=>M 1 (skp c j):=by rw [zfS,zfS]
     have f3:mnr M c=zbl (zbl (mnr M c) 0 λj=>M 1 (skp c j)) l' λj=>M (l'+1) (skp c j):=by
      funext i j
      unfold zbl;by_cases q1:i=l'
      ·rw [if_pos q1,q1];rfl
      ·rw [if_neg q1];by_cases q2:i=0
       ·rw [if_pos q2,q2];rfl
       ·rw [if_neg q2]
     have f4:=rswap (n:=n'+1) (k:=0) (l:=l') om9 om9 om9 (λN hN=>zeQ (n:=n'+1) (M:=N) (k:=0) (l:=l') om9 om9 hN) (mnr M c) (λj=>M 1 (skp c j)) (λj=>M (l'+1) (skp c j));rw [<-f3] at f4;rw [f1,f2,f4]
     grind
    rw [e1,zms (M:=zbl (zbl M 1 (M l)) l (M 1)) λj=>by
     rw [zgw _ om9,zgw _ om9,zgw _ om9,zlS];exact h j,Rat.neg_zero]
theorem zqk (n:Nat)(M:Nat->Nat->Rat):zaJ n (λi j=>M j i)=zaJ n M:=by
 have ha:Alt n λM=>zaJ n λi j=>M j i:=⟨λM N e=>zbd λi hi j hj=>e j hj i hi,λM k hk a b u v=>by
   show zaJ n _=_;have e:∀w:Nat->Rat,(λi j=>zaP M k w j i)=zbl (λi j=>M j i) k w:=λw=>rfl;rw [e,e,e];exact zeP _ hk a b u v,λM k l hk hl c e=>by
   show zaJ n (λi j=>M j i)=0;have e2:zaJ n (λi j=>M j i)=zaJ n λi j=>if j<n then M j i else 0:=zbd λi _ j hj=>by rw [if_pos hj]
   rw [e2];rcases Nat.lt_trichotomy k l with a|a|a
   ·exact zeQ a hl λj=>by
     by_cases q:j<n
     ·rw [if_pos q,if_pos q];exact e j q
     ·rw [if_neg q,if_neg q]
   ·exact absurd a c
   ·exact zeQ a hk λj=>by
     by_cases q:j<n
     ·rw [if_pos q,if_pos q];exact(e j q).symm
     ·rw [if_neg q,if_neg q]⟩
 have h1:=ha.one_ (Alt.det_ n) M;have h2:(λi j=>zdM j i)=zdM:=by
  funext i j;unfold zdM
  by_cases e:i=j
  ·rw [if_pos e,if_pos e.symm]
  ·rw [if_neg e,if_neg (Ne.symm e)]
 rw [zje,Rat.mul_one] at h1;have h3:zaJ n (λi j=>M j i)=zaJ n M*zaJ n (λi j=>zdM j i):=h1;rw [h3,h2,zje,Rat.mul_one]
theorem ratC {T:World->Prop}{M:Nat->Prop}(a:∀w,T w->zai w)(h0:M 0->RatG0 T)(h1:M 1->RatG1 T)(h2:M 2->RatG2 T):RatC T M where
 g0:=h0
 g1:=h1
 g2:=h2
 new p q b b' A D n m c d w hT hA hD hn hm h0:=zpM p q b A n c b' D m d w (a w hT) hA hD hn hm h0
 newNo p q b b' A D n m c d w hT hA hD hn hm h0:=zjK p q b A n c b' D m d w (a w hT) hA hD hn hm h0
 of p q w hT h1 h2 h3 h4 h0:=rat_of p q w (a w hT) h1 h2 h3 h4 h0
 ofNo p q w hT h1 h2 h0:=zrc p q w (a w hT) h1 h2 om9 om9 h0
 num r b A n c E k f w hT h hf:=zlQ r b A n c E k f w (a w hT) h hf
 den r b A n c E k f w hT h hf:=zlM r b A n c E k f w (a w hT) h hf
 sign r b A n c E k f w hT h hf:=zjL r b A n c E k f w (a w hT) h hf
 zero r b A n c E k f w hT h hf:=zbg r b A n c E k f w (a w hT) h hf
 isInt r b A n c E k f w hT h hf:=zbB r b A n c E k f w (a w hT) h hf
 bits r b A n c E k f w hT h hf:=rat_bits r b A n c E k f w (a w hT) h hf
 neg r b A n c E k f w hT h hf:=zdl r b A n c E k f w (a w hT) h hf
 inv r b A n c E k f w hT h hf h0:=ziN r b A n c E k f w (a w hT) h hf h0
 invNo r b A n c E k f w hT h hf h0:=zoQ r b A n c E k f w (a w hT) h hf h0
 add r s b b' A A' n n' c c' E E' k k' f f' w hT h h' hf hf':=ziM r s b A n c E k f b' A' n' c' E' k' f' w (a w hT) h h' hf hf'
 sub r s b b' A A' n n' c c' E E' k k' f f' w hT h h' hf hf':=zpN r s b A n c E k f b' A' n' c' E' k' f' w (a w hT) h h' hf hf'
 cmp r s b b' A A' n n' c c' E E' k k' f f' w hT h h' hf hf':=zpK r s b A n c E k f b' A' n' c' E' k' f' w (a w hT) h h' hf hf'
 same r s b b' A A' n n' c c' E E' k k' f f' w hT h h' hf hf':=zno r s b A n c E k f b' A' n' c' E' k' f' w (a w hT) h h' hf hf'
set_option maxRecDepth 100000
set_option linter.unusedSimpArgs false
section
variable {w:World}{g:Nat}{st:ESt}{rd:Rat}{A:oA9}{n cA:Nat}{B:oA9}{k cB:Nat}{x0 x1 x2 y0 y1 y2:Value}
theorem ElS.cells (h:ElS w g st rd A n cA B k cB x0 x1 x2 y0 y1 y2):w.cell? ⟨g,0,none⟩=some (.slice A n cA)/\w.cell? ⟨g,1,none⟩=some (.slice B k cB)/\w.cell? ⟨g,2,none⟩=some x0/\w.cell? ⟨g,3,none⟩=some x1/\w.cell? ⟨g,4,none⟩=some x2/\w.cell? ⟨g,5,none⟩=some y0/\w.cell? ⟨g,6,none⟩=some y1/\w.cell? ⟨g,7,none⟩=some y2:=
 ⟨h.blk.cell 0,h.blk.cell 1,h.blk.cell 2,h.blk.cell 3,h.blk.cell 4,h.blk.cell 5,h.blk.cell 6,h.blk.cell 7⟩
end
section
variable {w w':World}{g:Nat}{st:ESt}{rd:Rat}{A:oA9}{n cA:Nat}{B:oA9}{k cB:Nat}{x0 x1 x2 y0 y1 y2:Value}
theorem ElS.cap (h:ElS w g st rd A n cA B k cB x0 x1 x2 y0 y1 y2):n<=cA/\cA<=9223372036854775807/\zaC (VZ g) w A n st.S/\k<=cB/\cB<=9223372036854775807/\(∀ad,A=some ad->g<=ad.block):=by
 obtain⟨vs,hr⟩:=h.rows;obtain⟨A',c',hA,h1,h2,h3,h4⟩:=hr.shape h.hn;injection hA with q1 q2 q3;subst q1 q3;obtain⟨B',d',hB,h5,h6,_⟩:=h.lds.shape;injection hB with q1 q2 q3;subst q1 q3;exact⟨h1,h2,h3,by rw [<-h.hk];exact h5,h6,h4⟩
theorem ElS.row {q m:Nat}(h:ElS w g st rd (some ⟨q,0,none⟩) n cA B k cB x0 x1 x2 y0 y1 y2){i:Nat}(hi:i<n)(hm:(st.S.getD i []).length=m):∃C d,w.cell? ⟨q,i,none⟩=some (.slice C m d)/\VZ g w C m d (st.S.getD i []):=by
 obtain⟨-,-,hL,-⟩:=h.cap;obtain⟨ad,C,d,e,-,h1,h2⟩:=hL.get (vz_rs g) (Below.refl _ _) hi hm;injection e with e;subst e;rw [zar] at h1;exact⟨C,d,h1,h2⟩
theorem ElS.ready {q:Nat}(h:ElS w g st rd (some ⟨q,0,none⟩) n cA B k cB x0 x1 x2 y0 y1 y2){i:Nat}(hi:i<n):∃a:Value,w.cell? ⟨q,i,none⟩=some a/\w.frozen? ⟨q,i,none⟩=false:=by
 obtain⟨vs,hr⟩:=h.rows;obtain⟨g',b,e1,_,e3,e4,_,hk,e6,_⟩:=hr.at_ (n:=0) (by rw [h.hn];omega);injection e1 with e1;injection e1 with e1;subst e1;have e0:i<b.size:=om9;exact⟨_,(hk.cell _).trans (Array.getElem?_eq_getElem e0),hk.frozen _⟩
theorem ElS.lt (h:ElS w g st rd A n cA B k cB x0 x1 x2 y0 y1 y2):g<w.heap.size:=h.blk.lt
end
section
variable {w w':World}{g:Nat}{st:ESt}{rd:Rat}{A:oA9}{n cA:Nat}{B:oA9}{k cB:Nat}{x0 x1 x2 y0 y1 y2:Value}
theorem ElS.grownA (h:ElS w g st rd A n cA B k cB x0 x1 x2 y0 y1 y2)(hg:w.grownBy w' (Value.slice A n cA).ownBlock):Blk w' g 105 #[.slice A n cA,.slice B k cB,x0,x1,x2,y0,y1,y2]/\zde w' g (.slice B k cB) st.ld/\RV w' st.p x0 x1 x2/\RV w' rd y0 y1 y2:=by
 cases hv:(Value.slice A n cA).ownBlock with
 |none=>
   rw [hv] at hg;have:=h.below (zaX hg);exact⟨this.blk,this.lds,this.lead,this.rsd⟩
 |some q=>
   rw [hv] at hg;obtain⟨c,cs,hk,hs⟩:=h.neA hv;have ho:=zaV.of_grown hg;refine⟨(hg.block g h.blk.lt (λe=>c (by injection e with e;exact e.symm))).trans h.blk,h.lds.off (λq2 s ds b a=>?_),h.lead.off hk (zeJ hs) ho,h.rsd.off hk (zeJ hs) ho⟩;obtain⟨_,ds',h1,_⟩:=h.neB b;exact(hg.block q2 a.lt (λe=>by injection e with e;subst e;exact absurd (zhM h1 hk) de9)).trans a
theorem ElS.growRow {m d:Nat}{C:oA9}{L:List Rat}{v':Value}{vs:List Value}(h:ElS w g st rd A n cA B k cB x0 x1 x2 y0 y1 y2)(hr:zbN (VZ g) w g 61 (.slice A n cA) st.S vs)(hg:w.grownBy w' (Value.slice A n cA).ownBlock)(ho:w'.ownsRow g 61 1 v' (n+1) (vs++[.slice C m d]))(hp:zbM w' v')(hx:VZ g w C m d L)(hm:L.length=m):∃A' cA',v'=.slice A' (n+1) cA'/\ElS (w'.setCell ⟨g,0,none⟩ v') g {st with S:=st.S++[L]} rd A' (n+1) cA' B k cB x0 x1 x2 y0 y1 y2:=by
 obtain⟨h1,h2,h3,h4⟩:=h.grownA hg;have hl:=hr.grow (vz_rs g) hx hm ho (by rw [h.hn]) hg hp;have b:(st.S++[L]).length=n+1:=by rw [List.length_append,h.hn];rfl
 obtain⟨A',cA',e,-⟩:=hl.shape b;subst e;refine⟨A',cA',rfl,?_⟩;have i:∀q,(Value.slice A' (n+1) cA').ownBlock=some q->q≠g:=λq hq=>by
  rcases ho.2 with⟨h5,_⟩|⟨g',cap,cur,e1,e2,e3,_⟩
  ·rw [h5] at hq;cases hq
  ·rw [e1] at hq;simp [Value.ownBlock] at hq;subst hq;intro e;exact absurd (zhM e3 (e▸h1)) de9
 have f:∀q,(Value.slice B k cB).ownBlock=some q->q≠g:=λq hq=>(h.neB hq).1;have a:=h.nok;have c:zaV g w' (w'.setCell ⟨g,0,none⟩ (.slice A' (n+1) cA')):=zaV.of_far ((zbp.refl g w').set_ 0 _);exact {
  blk:=h1.set_ 0 _
  hn:=b
  hk:=h.hk
  rows:=⟨_,hl.off (λq s cs hq hk=>Blk.far (p:=⟨g,0,none⟩) hk (i q hq) _) (λhx=>zpY hx h1 a c)⟩
  lds:=h2.off λq s cs hq hk=>Blk.far (p:=⟨g,0,none⟩) hk (f q hq) _
  lead:=h3.off h1 a c
  rsd:=h4.off h1 a c}
theorem ElS.newRd {r:Rat}{z0 z1 z2:Value}(h:ElS w g st rd A n cA B k cB x0 x1 x2 y0 y1 y2)(hp:RV w r z0 z1 z2):ElS (((w.setCell ⟨g,5,none⟩ z0).setCell ⟨g,6,none⟩ z1).setCell ⟨g,7,none⟩ z2) g st r A n cA B k cB x0 x1 x2 z0 z1 z2:=
 h.store ((((zbp.refl g w).set_ 5 z0).set_ 6 z1).set_ 7 z2) (((h.blk.set_ 5 z0).set_ 6 z1).set_ 7 z2) h.lead hp λq s cs hq hk=>Blk.far (p:=⟨g,7,none⟩) (Blk.far (p:=⟨g,6,none⟩) (Blk.far (p:=⟨g,5,none⟩) hk hq z0) hq z1) hq z2
theorem ElS.new {b1 b2:Bool}{A1 A2 E1 E2:oA9}{n1 c1 k1 f1 n2 c2 k2 f2:Nat}(w:World)(h1:zaf w 1 b1 A1 n1 c1 E1 k1 f1)(h2:zaf w 1 b2 A2 n2 c2 E2 k2 f2):ElS (w.alloc (.cells #[.slice none 0 0,.slice none 0 0,.bool b1,.slice A1 n1 c1,.slice E1 k1 f1,.bool b2,.slice A2 n2 c2,.slice E2 k2 f2] 105)) w.heap.size ⟨[],[],1⟩ 1 none 0 0 none 0 0 (.bool b1) (.slice A1 n1 c1) (.slice E1 k1 f1) (.bool b2) (.slice A2 n2 c2) (.slice E2 k2 f2):=by
 obtain⟨hb,hk,-⟩:=zax w 105 #[.slice none 0 0,.slice none 0 0,.bool b1,.slice A1 n1 c1,.slice E1 k1 f1,.bool b2,.slice A2 n2 c2,.slice E2 k2 f2];exact{blk:=hk,hn:=rfl,hk:=rfl,rows:=⟨[],zbN.nil _ _ _⟩,lds:=zde.nil _ _,lead:=RV.of (h1.below hb),rsd:=RV.of (h2.below hb)}
def zcb (M:List (List Rat)):List (List Rat):=M.map λrow=>zau (zao row) row
def zbJ (M:List (List Rat)):Rat:=M.foldl (λr row=>r*zao row) 1
theorem znE {M:List (List Rat)}{i:Nat}(h:i<M.length):zcb (M.take (i+1))=zcb (M.take i)++[zau (zao (M.getD i [])) (M.getD i [])]:=by
 unfold zcb;rw [List.take_succ_eq_append_getElem h,List.map_append,List.getD_eq_getElem?_getD,List.getElem?_eq_getElem h];rfl
theorem zga {M:List (List Rat)}{i:Nat}(h:i<M.length):zbJ (M.take (i+1))=zbJ (M.take i)*zao (M.getD i []):=by
 unfold zbJ;rw [List.take_succ_eq_append_getElem h,List.foldl_append,List.getD_eq_getElem?_getD,List.getElem?_eq_getElem h];rfl
theorem znD {M:List (List Rat)}{n m:Nat}(h:zaY M n m):zaY (zcb M) n m:=⟨by unfold zcb;rw [List.length_map];exact h.rows,λL hL=>by
 unfold zcb at hL;obtain⟨row,hr,rfl⟩:=List.mem_map.1 hL;exact zrh (h.cols row hr)⟩
theorem zid {M:List (List Rat)}{n m:Nat}(h:zaY M n m){i:Nat}(hi:i<n)(j:Nat):atM (zcb M) i j=zao (M.getD i [])*atM M i j:=by
 have hl:=h.rows;unfold atM zcb;rw [List.getD_eq_getElem?_getD (l:=List.map _ _),List.getElem?_map,zbi (d:=[]) om9];exact zct j
structure zbn (K:Nat)(M:List (List Rat)):Prop where
 q:∀row ∈ M,LI K (zao row)
 x:∀row ∈ M,∀x ∈ row,LI K (zao row*x)
theorem zbn.at_ {K n m:Nat}{M:List (List Rat)}(h:zbn K M)(hd:zaY M n m):∀i,i<n->∀j,j<m->LI K (atM (zcb M) i j):=λi hi j hj=>by
 rw [zid hd hi];have hl:=hd.rows;have hr:=hd.row hi;have h1:M.getD i [] ∈ M:=List.mem_of_getElem? (zbi om9);refine h.x _ h1 _ ?_;unfold atM;exact List.mem_of_getElem? (zbi (d:=0) om9)
theorem zgs {K:Nat}{M:List (List Rat)}(h:zbn K M):∀i,i<=M.length->LI (1+i*K) (zbJ (M.take i))
 |0,_=>by rw [Nat.zero_mul];exact LI.one
 |i+1,hi=>by
   rw [zga om9];exact((zgs h i om9).mul (h.q _ (List.mem_of_getElem? (zbi om9)))).up (by rw [Nat.succ_mul];omega)
end
theorem zov {ld:List Nat}{i:Nat}(h:i<ld.length):(ldI ld).getD i 0=((ld.getD i 0:Nat):Int):=by
 unfold ldI;rw [List.getD_eq_getElem?_getD,List.getD_eq_getElem?_getD,List.getElem?_map,List.getElem?_eq_getElem h];rfl
section
variable {w:World}{A:oA9}{n c m K K0:Nat}{MM:List (List Rat)}
end
theorem zcO {zs:List Int}(h:∀z ∈ zs,-9223372036854775808<=z/\z<=9223372036854775807):zat 1 (ofL zs):=λx hx=>by
 obtain⟨z,hz,rfl⟩:=List.mem_map.1 hx;exact SzQ.whole (zhC (h z hz).1 (h z hz).2) de9
theorem zdI (zs:List Int)(n:Nat)(hn:zs.length=n){w:World}{g:Nat}{t:TypeId}(h:Blk w g t (zs.map (Value.int .i64)).toArray)(hz:∀z ∈ zs,-9223372036854775808<=z/\z<=9223372036854775807):zdQ w (some ⟨g,0,none⟩) n zs:=by
 subst hn;exact⟨rfl,λi hi=>by
  rw [List.getD_eq_getElem?_getD,List.getElem?_eq_getElem hi];exact hz _ (List.getElem_mem hi),λi hi=>⟨_,rfl,by
  rw [zar,h.cell,List.getD_eq_getElem?_getD,List.getElem?_eq_getElem hi];simp [hi]⟩⟩
theorem qc10:RatC zai (λ_=>False):=ratC (λ_ h=>h) (λh=>h.elim) (λh=>h.elim) (λh=>h.elim)
def GB2 (m:Nat)(z:Int)(w:World)(M:List (List Rat))(e:Ending)(w':World):Prop:=∃(A:oA9) (c:Nat),e=.returned (.tuple #[.agg #[.slice A 2 c,.int .i64 z],.bool true])/\zbL w' A 2 c m M/\(∀ad,A=some ad->w.heap.size<=ad.block)/\Below w.heap.size w w'
theorem zbn.of_sz {K n m:Nat}{M:List (List Rat)}(h:zaO K M)(hd:zaY M n m):zbn (1+(m+1)*K) M:=⟨λrow hr=>(zed (by rw [hd.cols row hr];exact Nat.le_refl _) (h row hr)).1,λrow hr x hx=>(zed (by rw [hd.cols row hr];exact Nat.le_refl _) (h row hr)).2 x hx⟩
def E1:List (List Rat):=[ofL [1,2,0],ofL [0,0,1]]
def E2:List (List Rat):=[ofL [1,2],ofL [3,4]]
def E3:List (List Rat):=[ofL [1,1],ofL [1,1]]
theorem d2 {m:Nat}{xs ys:List Rat}(h1:xs.length=m)(h2:ys.length=m):zaY [xs,ys] 2 m:=⟨rfl,λL hL=>by
 simp at hL;rcases hL with rfl|rfl
 ·exact h1
 ·exact h2⟩
theorem sz2e {K:Nat}{xs ys:List Rat}(h1:zat K xs)(h2:zat K ys):zaO K [xs,ys]:=λL hL=>by
 simp at hL;rcases hL with rfl|rfl
 ·exact h1
 ·exact h2
section
variable {A B V Q:oA9}{c d cv q:Nat}{M:List (List Rat)}{xs:List Rat}{w:World}
theorem e_of2 (hT:zai w)(h:zaC (zaM zaf) w Q 2 M)(hd:zaY M 2 2)(z:zaO 1 M):Calls prog 59 #[.int .i64 2,.slice Q 2 q] w (GB2 2 2 w M):=zoE (m:=2) hT h hd de9 de9 z de9
end
theorem zaH.rest {w:World}{ad:Addr}{n k c:Nat}{xs:List Rat}(h:zaH w (some ad) n c xs)(hk:k<=n):zaH w (some (ad.add (k*3))) (n - k) (c - k) (xs.drop k):=
 ⟨by rw [List.length_drop,h.len],by have:=h.fits;omega,by have:=h.most;omega,λi x hi=>by
  rw [List.getElem?_drop] at hi;obtain⟨ad',b,B,m,d,F,u,v,e,h1,h2,h3,h4,h5⟩:=h.num _ x hi;injection e with e;subst e;have ea:∀j,(ad.add (k*3)).add j=ad.add (k*3+j):=λj=>zef _ _ _;refine⟨_,b,B,m,d,F,u,v,rfl,by rw [zah];exact h1,?_,?_,?_,h5⟩
  ·rw [ea,show k*3+i*3=(k+i)*3 by omega];exact h2
  ·rw [ea,show k*3+(i*3+1)=(k+i)*3+1 by omega];exact h3
  ·rw [ea,show k*3+(i*3+2)=(k+i)*3+2 by omega];exact h4⟩
theorem zcc.moved {α:Type}{E:El α}{w w':World}{a:Nat}{t:TypeId}{v:Value}{xs:List α}{vs:List Value}(h:zcc E w a t v xs vs)(hg:∀b,v.ownBlock=some b->w'.heap[b]?=w.heap[b]?)(hE:∀{x:α} {b:Bool} {A:oA9} {n c:Nat} {F:oA9} {k f:Nat},E w x b A n c F k f->E w' x b A n c F k f):zcc E w' a t v xs vs:=by
 refine⟨⟨h.own.1,?_⟩,h.nou.block hg,λi x hi=>?_⟩
 ·rcases h.own.2 with h1|⟨g,cap,cur,e1,e2,e3,e4⟩
  ·exact .inl h1
  ·exact .inr ⟨g,cap,cur,e1,e2,(hg g (by rw [e1];rfl)).trans e3,e4⟩
 ·obtain⟨b,B,m,d,F,u,f,h1,h2,h3,h4⟩:=h.num i x hi;exact⟨b,B,m,d,F,u,f,h1,h2,h3,hE h4⟩
structure zhc (E:El Rat)(w:World)(lo:Nat)(v:Value)(M:List (List Rat))(vs:List Value):Prop where
 own:w.ownsRow lo 70 1 v M.length vs
 sl:zbM w v
 num:∀(i:Nat) (L:List Rat),M[i]?=some L->∃(u:Value) (us:List Value),vs[i]?=some u/\zcc E w lo 49 u L us
 apart:∀(i j:Nat) (u u':Value) (b:Nat),vs[i]?=some u->vs[j]?=some u'->u.ownBlock=some b->u'.ownBlock=some b->i=j
 far:∀(i:Nat) (u:Value) (b:Nat),vs[i]?=some u->u.ownBlock=some b->v.ownBlock≠some b
theorem zhc.nil (E:El Rat)(w:World)(lo:Nat):zhc E w lo (.slice none 0 0) [] []:=⟨World.ownsRow_nil _ _ _ _,zbM.nil _ _,λi L hi=>by simp at hi,λi j u u' b hi=>by simp at hi,λi u b hi=>by simp at hi⟩
theorem zhc.len {E:El Rat}{w:World}{lo:Nat}{v:Value}{M:List (List Rat)}{vs:List Value}(h:zhc E w lo v M vs):vs.length=M.length:=by have:=h.own.1;omega
theorem zhc.below {E:El Rat}(hE:zco E){w w':World}{lo:Nat}{v:Value}{M:List (List Rat)}{vs:List Value}(h:zhc E w lo v M vs)(hb:Below w.heap.size w w'):zhc E w' lo v M vs where
 own:=⟨h.own.1,by
  rcases h.own.2 with h1|⟨g,cap,cur,e1,e2,e3,e4⟩
  ·exact .inl h1
  ·exact .inr ⟨g,cap,cur,e1,e2,(hb.block g (Blk.lt (t:=70) (cs:=cur) e3)).trans e3,e4⟩⟩
 sl:=h.sl.below hb
 num:=λi L hi=>by
  obtain⟨u,us,h1,h2⟩:=h.num i L hi;exact⟨u,us,h1,h2.below hE hb⟩
 apart:=h.apart
 far:=h.far
section
variable {w:World}
theorem zqt:∀(args:Array Value) (w':World),Sem.run prog (callFunc 168 args) w'=.ok (.enter 168 args) w':=Go.Proofs.enters_of func168 kr9 rfl
theorem cl_lnext {gc m d c K:Nat}{V:oA9}{L:List Rat}(hT:zai w)(hk:Blk w gc 3 #[.int .i64 (c:Int)])(hv:zaH w V m d L)(hc:c<m)(hz:zat K L)(hK:K<=67108864:=by omega):
  Calls prog 168 #[.slice V m d,.pointer (some ⟨gc,0,none⟩)] w (λe w'=>e=.returned (.bool (!decide (L.getD c 0=0)))/\Below w.heap.size w w'):=by
 have g0:=hk.c1;have HS:=lh9 (hz.at_ (k:=c) (by rw [hv.len];exact hc));obtain⟨ad,b1,B1,m1,d1,E1,u1,v1,rfl,-,h0,h1,h2,hx⟩:=hv.get (Below.refl _ _) hc;have i1:(0:Int)<=(c:Int):=om9;have i2:(c:Int)<(m:Int):=om9;have i3:c<m:=hc;generalize L.getD c 0=x at*;obtain⟨t,ht⟩:∃t,decide (x=0)=t:=⟨_,rfl⟩;rw [ht];have a:=lh9 (zhX ht hT hx HS.out hK);clear hk hv hz hx hc hT ht;go_enter func168,ntmps168;go_wp2_with fail;clear h0 h1 h2 g0;refine a.out.mono ?_;rintro eo w1 ⟨rfl,hb⟩;have HB:=lh9 hb;clear hb a;go_wp2;go_ret;exact⟨rfl,HB.out⟩
theorem zil {gc q n m c K:Nat}{Q:oA9}{M:List (List Rat)}(hT:zai w)(h:zaC (zaM zaf) w Q n M)(hk:Blk w gc 3 #[.int .i64 (c:Int)])(hc:c<m)(hd:∀L ∈ M,L.length=m)(hz:zaO K M)(hn:n<=1048576)(hK:K<=67108864:=by omega):
  Calls prog 167 #[.slice Q n q,.func (.func 168) #[] #[.pointer (some ⟨gc,0,none⟩)]] w (λe w'=>e=.returned (.int .i64 (idxZ c M))/\Below w.heap.size w w'):=by
 have hl:=h.len;have HR:=lh9 h;have HT:=up9 w (λw' hb=>hT.on hb);have HK:=up9 w (λw' hb=>zab hb hk);have HD:Hid (∀k,k<n->(M.getD k []).length=m):=λk hk=>hd _ (List.mem_of_getElem? (zbi om9));have HZ:Hid (∀k,k<n->zat K (M.getD k [])):=λk hk=>hz.row om9;have HI:Hid (∀k,k<n->(∀j,j<k->(M.getD j []).getD c 0=0)->(M.getD k []).getD c 0≠0->idxZ c M=(k:Int)):=λk hk=>idxZ_at om9;have HN:Hid ((∀j,j<n->(M.getD j []).getD c 0=0)->idxZ c M= -1):=λh0=>zqz (by rw [hl];exact h0);have hEn:=zqt;have hB:=Below.refl w.heap.size w;have i0:(0:Int)<=(n:Int):=om9;have HC:=lh9 hc;obtain⟨zi,s⟩:∃zi,idxZ c M=zi:=⟨_,rfl⟩;rw [s] at HI HN⊢;clear h hk hl hd hz hT hc s;go_enter func167,ntmps167;go_wp2_with fail
 go_loopg [8] (n+1) (λg ix wr=>∃(k:Nat),k<=n/\n<g+k/\ix=.int .i64 k/\Hid (∀j,j<k->(M.getD j []).getD c 0=0)/\Below w.heap.size w wr)
 case atStart=>exact⟨0,Nat.zero_le _,om9,rfl,λj hj=>(by cases hj),hB⟩
 case round=>
  clear hB;obtain⟨k,hkn,hg,rfl,o,hB⟩:=hrel;by_cases hlt:k<n
  ·have v:decide ((k:Int)<(n:Int))=true:=decide_eq_true om9;have i1:(0:Int)<=(k:Int):=om9;have i2:(k:Int)<(n:Int):=om9;obtain⟨ad,B,d,rfl,-,r,hv⟩:=HR.out.get (zaA zak) hB hlt (HD.out k hlt);have u:=lh9 (HZ.out k hlt);have i:=lh9 (HI.out k hlt o.out);have HB:=lh9 hB;have l:Hid ((M.getD k []).getD c 0=0->∀j,j<k+1->(M.getD j []).getD c 0=0):=λe j hj=>by
    rcases Nat.lt_or_ge j k with a|a
    ·exact o.out j a
    ·rw [show j=k by omega];exact e
   have b:=lh9 (cl_lnext (HT.out _ hB) (HK.out _ hB) hv HC.out u.out hK);clear hB hv;by_cases h0:(M.getD k []).getD c 0=0
   ·have t:=lh9 (l.out h0);have b:=b.out;rw [h0,show(!decide ((0:Rat)=0))=false from rfl] at b;have b:=lh9 b;clear h0 l i;go_wp2_with fail;refine b.out.mono ?_;rintro eo w3 ⟨rfl,hb⟩;have f:=lh9 (zaa HB.out hb);clear hb r;go_wp2;go_roundg (n - k)
    case measure=>omega
    case rel=>exact⟨k+1,om9,om9,by go_num,t.out,f.out⟩
   ·have HE:=lh9 (i.out h0);have b:=b.out;rw [decide_eq_false h0,show(!false)=true from rfl] at b;have b:=lh9 b;clear h0 l i;go_wp2_with fail;refine b.out.mono ?_;rintro eo w3 ⟨rfl,hb⟩;have f:=lh9 (zaa HB.out hb);clear hb r;go_wp2;go_ret;exact⟨by rw [HE.out];rfl,f.out⟩
  ·have y:k=n:=om9;subst y;have v:decide ((k:Int)<(k:Int))=false:=si9;have HE:=lh9 (HN.out o.out);have f:=lh9 hB;clear hB;go_wp2;go_ret;exact⟨by rw [HE.out];rfl,f.out⟩
end
theorem zbc.below {W W':World}{A:oA9}{n c:Nat}{R:ziV}(h:zbc W A n c R)(hb:Below W.heap.size W W'):zbc W' A n c R:=⟨h.fits,h.small,λr hr=>by
 obtain⟨ad,e,h1,h2,h3⟩:=h.row r hr;exact⟨ad,e,Nat.lt_of_lt_of_le h1 hb.size,zac hb h2,h3.below hb⟩⟩
