/- What this claim leans on. -/
import Derived.Test.YtielpgdebeggbaaGreatDoorWMMul
set_option linter.unusedVariables false
set_option linter.unusedSimpArgs false
namespace Go.Proofs.YtielpgdebeggbaaGreatDoor
open Go Go.RowKit Go.Proofs.Tryz
set_option maxHeartbeats 16000000
set_option maxRecDepth 100000
variable {K c i j k m n:Nat}{a s:Nat->Nat->Rat}{x:Nat->Rat}
theorem Uv {T:World->Prop}{M:Nat->Prop}(I:∀w w',T w->Below w.heap.size w w'->T w')(IC:lR T)(QC:lS T M)(p q:Int)(r:Rat)(K:Nat)(bx:Bool)(Bx:ze)(mx dx:Nat)(Ex:ze)(ux vx:Nat)(w:World)(hK:K<=16777216)(hz:zn K r)(h:zo w r bx Bx mx dx Ex ux vx)(hT:T w)(v: -9223372036854775808<=p)(z:p<=9223372036854775807)(A: -9223372036854775808<=q)(B:q<=9223372036854775807)(J:q≠0)(he:r=Rat.divInt p q):
  Calls prog 18 #[.agg #[.bool bx,.slice Bx mx dx,.slice Ex ux vx],.int .i64 p,.int .i64 q] w λe w'=>e=.returned (.bool true)/\Below w.heap.size w w':=by
 have D:=za IC;have n:=za QC;have HT:=zj w (λw' hb=>I w w' hT hb);have HE:=za he;have s:=za hz;have g:=za h;clear IC QC hT he hz h;go_enter func18,ntmps18;have hB:=qZ w.heap.size w;obtain⟨i,t,bz⟩:=zu w 52 #[.bool bx,.slice Bx mx dx,.slice Ex ux vx];have hB:=zc hB i;have g:=za (g.o.below i);obtain⟨g1,e1,i1⟩:=t.c3;clear i t bz;go_wp2_with fail;generalize w.alloc (.cells #[.bool bx,.slice Bx mx dx,.slice Ex ux vx] 52)=W1 at*;have o:zd (zn (1) (Rat.divInt p q)):=zn.made (K:=1) (by show Int.natAbs p<18446744073709551616^1;have e1: -9223372036854775808<=p:=v;have e2:p<=9223372036854775807:=z;omega) (by show Int.natAbs q<18446744073709551616^1;have e1: -9223372036854775808<=q:=A;have e2:q<=9223372036854775807:=B;omega) zf;(with_reducible refine(n.o.of p q _ (HT.o _ hB) v z A B J).mono ?_);rintro e u ⟨b2,B2,m2,d2,E2,u2,v2,rfl,C,hb⟩;have hB:=zc hB hb;have g:=za (g.o.below hb);obtain⟨g1,e1,i1⟩:=yj hb g1 e1 i1;have k:=za C;clear hb C;obtain⟨i,t,bz⟩:=zu u 52 #[.bool b2,.slice B2 m2 d2,.slice E2 u2 v2];have hB:=zc hB i;have g:=za (g.o.below i);obtain⟨g1,e1,i1⟩:=yj i g1 e1 i1;have k:=za (k.o.below i);obtain⟨g3,e3,i3⟩:=t.c3;clear i t bz;go_wp2_with fail;generalize u.alloc (.cells #[.bool b2,.slice B2 m2 d2,.slice E2 u2 v2] 52)=W3 at*;generalize u.heap.size=q3 at*;have C0:=zj W3 (λw' h=>wt (decide_eq_true HE.o) (n.o.same (r) (Rat.divInt p q) bx b2 Bx B2 mx m2 dx d2 Ex E2 ux u2 vx v2 w' (HT.o _ (zc hB h)) (g.o.below h) (k.o.below h) (szq s g.o) (szq o k.o)));have E:zd (Sz (K) (r.num).natAbs):=zn.num s.o;have C1:=zj W3 (λw' h=>n.o.num (r) bx Bx mx dx Ex ux vx w' (HT.o _ (zc hB h)) (g.o.below h) (szq s g.o));have F:zd (Sz (1) ((Rat.divInt p q).num).natAbs):=zn.num o.o;have C2:=zj W3 (λw' h=>n.o.num (Rat.divInt p q) b2 B2 m2 d2 E2 u2 v2 w' (HT.o _ (zc hB h)) (k.o.below h) (szq o k.o));have C3:=zj W3 (λw' h b4 B4 m4 d4 (c:yf w' (r.num) b4 B4 m4 d4) b5 B5 m5 d5 (d:yf w' ((Rat.divInt p q).num) b5 B5 m5 d5)=>nG (by rw [HE.o]) (D.o.cmp (r.num) ((Rat.divInt p q).num) b4 b5 B4 B5 m4 m5 d4 d5 w' (HT.o _ (zc hB h)) c d (by have:=Sz.words E.o c.words;omega) (by have:=Sz.words F.o d.words;omega)));have G:zd (Sz (K) (r.den)):=zn.den s.o;have C4:=zj W3 (λw' h=>n.o.den (r) bx Bx mx dx Ex ux vx w' (HT.o _ (zc hB h)) (g.o.below h) (szq s g.o));have H:zd (Sz (1) ((Rat.divInt p q).den)):=zn.den o.o;have C5:=zj W3 (λw' h=>n.o.den (Rat.divInt p q) b2 B2 m2 d2 E2 u2 v2 w' (HT.o _ (zc hB h)) (k.o.below h) (szq o k.o));have C6:=zj W3 (λw' h B6 m6 d6 (j:zp w' (r.den) B6 m6 d6) B7 m7 d7 (m:zp w' ((Rat.divInt p q).den) B7 m7 d7)=>iF (x:=r.den) (y:=(Rat.divInt p q).den) (by rw [HE.o]) j m (y5 G j) (y5 H m));have a:=(qZ W3.heap.size W3).drew;refine rg (zk g1 (zk e1 (zk i1 (zk g3 (zk e3 (zk i3 zQ)))))) (λhHeld=>?_);refine tk 0 ?_;refine tk 1 ?_;refine tk 2 ?_;refine tk 3 ?_;refine rc 4 (λK hK=>?_);go_simp;go_at_call 33;(with_reducible refine(C0.o _ a).mono ?_);rintro e wa4 ⟨rfl,hb⟩;have a:=zc a hb;refine hK.out _ _ (Cs.below hHeld hb) (λhHeld=>?_);clear hK K hb
 try simp only [yl]
 refine tk 5 ?_;refine tk 6 ?_;refine tk 7 ?_;refine tk 9 ?_;refine rc 8 (λK hK=>?_);go_simp;go_at_call 55;(with_reducible refine(C1.o _ a).mono ?_);rintro e wa5 ⟨b4,B4,m4,d4,rfl,c,hb⟩;have a:=zc a hb;refine hK.out _ _ (Cs.below hHeld hb) (λhHeld=>?_);clear hK K hb
 try simp only [yl]
 refine rc 10 (λK hK=>?_);go_simp;go_at_call 55;(with_reducible refine(C2.o _ a).mono ?_);rintro e wa6 ⟨b5,B5,m5,d5,rfl,d,hb⟩;have a:=zc a hb;have c:=c.below hb;refine hK.out _ _ (Cs.below hHeld hb) (λhHeld=>?_);clear hK K hb
 try simp only [yl]
 refine rc 11 (λK hK=>?_);go_simp;go_at_call 54;(with_reducible refine(C3.o _ a _ _ _ _ c _ _ _ _ d).mono ?_);rintro e wa7 ⟨rfl,hb⟩;have a:=zc a hb;have c:=c.below hb;have d:=d.below hb;refine hK.out _ _ (Cs.below hHeld hb) (λhHeld=>?_);clear hK K hb
 try simp only [yl]
 refine tk 12 ?_;refine tk 13 ?_;refine tk 14 ?_;refine tk 15 ?_;refine tk 17 ?_;refine rc 16 (λK hK=>?_);go_simp;go_at_call 57;(with_reducible refine(C4.o _ a).mono ?_);rintro e wa8 ⟨B6,m6,d6,rfl,j,hb⟩;have a:=zc a hb;have c:=c.below hb;have d:=d.below hb;refine hK.out _ _ (Cs.below hHeld hb) (λhHeld=>?_);clear hK K hb
 try simp only [yl]
 refine rc 18 (λK hK=>?_);go_simp;go_at_call 57;(with_reducible refine(C5.o _ a).mono ?_);rintro e wa9 ⟨B7,m7,d7,rfl,m,hb⟩;have a:=zc a hb;have c:=c.below hb;have d:=d.below hb;have j:=j.below hb;refine hK.out _ _ (Cs.below hHeld hb) (λhHeld=>?_);clear hK K hb
 try simp only [yl]
 refine rc 19 (λK hK=>?_);go_simp;go_at_call 56;(with_reducible refine(C6.o _ a _ _ _ j _ _ _ m).mono ?_);rintro e wa10 ⟨rfl,hb⟩;have a:=zc a hb;have c:=c.below hb;have d:=d.below hb;have j:=j.below hb;have m:=m.below hb;refine hK.out _ _ (Cs.below hHeld hb) (λhHeld=>?_);clear hK K hb
 try simp only [yl]
 refine tk 20 ?_;refine tk 21 ?_;refine tk 22 ?_;refine zN ?_;have hB:=zc hB a;obtain⟨g1,e1,i1,g3,e3,i3⟩:=yd a g1 e1 i1 g3 e3 i3;clear a hHeld c d j m C0 C1 C2 C3 C4 C5 C6;go_wp2;go_ret;exact⟨by first|rfl|simp,hB⟩
theorem TJ (M:Nat->Nat->Rat){k:Nat}(hk:k<n)(a:Rat)(u:Nat->Rat):zH n (yc M k λj=>a*u j)=a*zH n (yc M k u):=by
 have h:=gP M hk a 0 u u;have e:(λj=>a*u j+0*u j)=λj=>a*u j:=by funext j;grind
 rw [e] at h;rw [h];grind
theorem Vd (M:Nat->Nat->Rat)(k:Nat):yc M k (M k)=M:=by
 funext i j
 unfold yc;by_cases e:i=k
 ·rw [if_pos e,e]
 ·rw [if_neg e]
theorem Xu {m:Nat}{X:List (List Rat)}(h:zO X m m):∀t,t<=m->zH m (λi j=>if i<t then zI (X.getD i [])*zl X i j else zl X i j)=vM (X.take t)*zH m (zl X)
 |0,_=>by
   have e:(λi j=>if i<0 then zI (X.getD i [])*zl X i j else zl X i j)=zl X:=by
    funext i j;rw [if_neg zb]
   rw [e];show _=(1:Rat)*_;rw [XG]
 |t+1,ht=>by
   have hl:=h.rows;have ih:=Xu h t zb;rw [aA zb];have e1:(λi j=>if i<t+1 then zI (X.getD i [])*zl X i j else zl X i j)=yc (λi j=>if i<t then zI (X.getD i [])*zl X i j else zl X i j) t λj=>zI (X.getD t [])*zl X t j:=by
    funext i j
    unfold yc;by_cases p:i=t
    ·rw [if_pos p,if_pos zb,p]
    ·rw [if_neg p];by_cases p2:i<t
     ·show _=if i<t then _ else _
      rw [if_pos p2,if_pos zb]
     ·show _=if i<t then _ else _
      rw [if_neg p2,if_neg zb]
   have e2:yc (λi j=>if i<t then zI (X.getD i [])*zl X i j else zl X i j) t (λj=>zl X t j)=λi j=>if i<t then zI (X.getD i [])*zl X i j else zl X i j:=by
    funext i j
    unfold yc;by_cases p:i=t
    ·rw [if_pos p,p,if_neg zb]
    ·rw [if_neg p]
   rw [e1,TJ _ zb,e2,ih]
   grind
theorem Po {X:List (List Rat)}(h:zO X m m):zH m (zl (vm X))=vM X*zH m (zl X):=by
 have e:=Xu h m (qX _);rw [qV (by rw [h.rows];exact qX _)] at e;rw [<-e];exact uh λi hi j _=>by rw [if_pos hi];exact aZ h hi j
theorem rG {M:Nat->Nat->Rat}{v:Nat->Rat}(hc:c<m)(hv:v c=1)(h:∀i,i<m->zq m (λj=>M i j*v j)=0):zH m M=0:=by
 have e1:=jO M hc v (λl i=>M i l) m;have e2:(zq m λl=>v l*zH m (zL M c λi=>M i l))=zq m λl=>(if l=c then 1 else 0)*(v l*zH m M):=ya λl hl=>by
  by_cases e:l=c
  ·rw [if_pos e,e,ic,XG]
  ·rw [if_neg e,gZ hc hl (Ne.symm e)];grind
 rw [e2,je hc (λl=>v l*zH m M),hv,XG] at e1;rw [<-e1,uh (N:=zL M c λi=>0*(λ_=>(0:Rat)) i) λi hi j _=>?_,gX M hc,XR];by_cases e:j=c
 ·rw [e,vo,vo];show zq m (λl=>v l*M i l)=0*0;rw [ya (g:=λl=>M i l*v l) λl _=>yM _ _,h i hi];grind
 ·rw [vv _ e,vv _ e]
def zD (s:Nat->Nat->Rat)(k:Nat):Rat:=if k=0 then 1 else s (k - 1) (k - 1)
theorem ft (s:Nat->Nat->Rat)(k:Nat):zD s (k+1)=s k k:=rfl
def x6 (s:Nat->Nat->Rat)(i j k:Nat):Rat:=s i k*s k j*(s k k*zD s k)⁻¹
structure wK (n c:Nat)(a s:Nat->Nat->Rat):Prop where
 cn:c<=n
 ne:∀k,k<c->s k k≠0
 eq:∀i,i<n->∀j,j<n->a i j=zq c (λk=>if k<=i/\k<=j then x6 s i j k else 0)+if c<=i/\c<=j then(zD s c)⁻¹*s i j else 0
theorem wK.pr (h:wK n c a s){k:Nat}(hk:k<=c):zD s k≠0:=by
 cases k with
 |zero=>show(1:Rat)≠0;decide+kernel
 |succ k=>exact h.ne k zb
theorem wK.start (n:Nat)(a:Nat->Nat->Rat):wK n 0 a a where
 cn:=qW _
 ne:=λk hk=>by cases hk
 eq:=λi _ j _=>by
  rw [gT,if_pos ⟨qW _,qW _⟩];show a i j=0+(1:Rat)⁻¹*a i j
  grind
def uv (c:Nat)(s:Nat->Nat->Rat):Nat->Nat->Rat:=λi j=>if c<i/\c<j then(zD s c)⁻¹*(s c c*s i j+ -s i c*s c j) else s i j
theorem Uw (s:Nat->Nat->Rat)(h:k<=c+1):zD (uv c s) k=zD s k:=by
 unfold zD uv
 split
 ·rfl
 ·rw [if_neg zb]
theorem wK.step {s:Nat->Nat->Rat}(h:wK n c a s)(hc:c<n)(h0:s c c≠0):wK n (c+1) a (uv c s) where
 cn:=hc
 ne:=λk hk=>by
  unfold uv;rw [if_neg zb];by_cases e:k=c
  ·rw [e];exact h0
  ·exact h.ne k zb
 eq:=λi hi j hj=>by
  have hp:=h.pr (qX c);have tm:∀k,k<=c->k<=i/\k<=j->x6 (uv c s) i j k=x6 s i j k:=λk hk _=>by
   unfold x6;rw [Uw s zb];unfold uv;rw [if_neg zb,if_neg zb,if_neg zb]
  rw [h.eq i hi j hj,xw];have e1:zq c (λk=>if k<=i/\k<=j then x6 (uv c s) i j k else 0)=zq c (λk=>if k<=i/\k<=j then x6 s i j k else 0):=ya λk hk=>by
   split
   ·next e=>exact tm k zb e
   ·rfl
  rw [e1];by_cases e:c<=i/\c<=j
  ·rw [if_pos e,if_pos e,tm c (qX c) e];unfold x6;by_cases e2:c+1<=i/\c+1<=j
   ·rw [if_pos e2,Uw s (qX _),ft];unfold uv;rw [if_pos zb]
    grind
   ·rw [if_neg e2];by_cases e3:i=c
    ·subst e3;grind
    ·have e4:j=c:=zb;subst e4;grind
  ·rw [if_neg e,if_neg e,if_neg zb];grind
def ym (r q:Nat)(s:Nat->Nat->Rat):Nat->Nat->Rat:=λi j=>if i=r then s q j else if i=q then s r j else s i j
theorem wK.xch_ {q:Nat}(h:wK n c a s)(h1:c<q)(h2:q<n):wK n c (ym c q a) (ym c q s) where
 cn:=h.cn
 ne:=λk hk=>by
  unfold ym;rw [if_neg zb,if_neg zb];exact h.ne k hk
 eq:=λi hi j hj=>by
  have g:∀k,k<=c->zD (ym c q s) k=zD s k:=λk hk=>by
   unfold zD ym
   split
   ·rfl
   ·rw [if_neg zb,if_neg zb]
  have hk:∀k,k<c->ym c q s k=s k:=λk hk=>by funext j;unfold ym;rw [if_neg zb,if_neg zb]
  have d:∀i',i'<n->(∀j,ym c q s i j=s i' j)->ym c q a i j=a i' j->(i'=i\/(c<=i/\c<=i'))->ym c q a i j=zq c (λk=>if k<=i/\k<=j then x6 (ym c q s) i j k else 0)+if c<=i/\c<=j then(zD (ym c q s) c)⁻¹*ym c q s i j else 0:=λi' m e1 e2 e3=>by
   rw [e2,h.eq i' m j hj,g c (qX c),e1 j];congr 1
   ·refine ya λk o=>?_;have:(k<=i'/\k<=j)↔(k<=i/\k<=j):=zb;simp only [this]
    split
    ·unfold x6;rw [e1 k,hk k o,g k zb]
    ·rfl
   ·have:(c<=i'/\c<=j)↔(c<=i/\c<=j):=zb;simp only [this]
  by_cases e:i=c
  ·exact d q h2 (λj=>by unfold ym;rw [if_pos e]) (by unfold ym;rw [if_pos e]) zb
  ·by_cases e2:i=q
   ·exact d c zb (λj=>by unfold ym;rw [if_neg e,if_pos e2]) (by unfold ym;rw [if_neg e,if_pos e2]) zb
   ·exact d i hi (λj=>by unfold ym;rw [if_neg e,if_neg e2]) (by unfold ym;rw [if_neg e,if_neg e2]) (Or.inl rfl)
theorem xy.xch_ {ld:List Nat}{p:Rat}(h:xy n m c a s ld p){q:Nat}(h1:ld.length<q)(h2:q<n):xy n m c (ym ld.length q a) (ym ld.length q s) ld p where
 len:=h.len
 cm:=h.cm
 up:=h.up
 lt:=h.lt
 ne:=h.ne
 piv:=λl hl i hi=>by
  unfold ym;by_cases e1:i=ld.length
  ·rw [if_pos e1,if_neg zb,h.piv l hl q h2,if_neg zb]
  ·rw [if_neg e1];by_cases e2:i=q
   ·rw [if_pos e2,if_neg zb,h.piv l hl ld.length zb,if_neg zb]
   ·rw [if_neg e2,h.piv l hl i hi]
 low:=λi hi k j hj=>by
  unfold ym
  split
  ·exact h.low q zb h2 j hj
  ·split
   ·exact h.low ld.length (qX _) zb j hj
   ·exact h.low i hi k j hj
 fore:=λl hl j hj=>by
  unfold ym;rw [if_neg zb,if_neg zb];exact h.fore l hl j hj
 back:=λi hi j hj=>by
  have hs:∀l,l<ld.length->ym ld.length q s l=s l:=λl hl=>by funext j;unfold ym;rw [if_neg zb,if_neg zb]
  have d:∀i',i'<n->(∀j,ym ld.length q a i j=a i' j)->(∀j,ym ld.length q s i j=s i' j)->(i'=i\/(ld.length<=i/\ld.length<=i'))->p*ym ld.length q a i j=zq ld.length (λl=>ym ld.length q a i (ld.getD l 0)*ym ld.length q s l j)+if ld.length<=i then ym ld.length q s i j else 0:=λi' g e1 e2 e3=>by
   rw [e1,e2,h.back i' g j hj];congr 1
   ·exact ya λl hl=>by rw [e1,hs l hl]
   ·have:(ld.length<=i')↔(ld.length<=i):=zb;simp only [this]
  by_cases e:i=ld.length
  ·exact d q h2 (λj=>by unfold ym;rw [if_pos e]) (λj=>by unfold ym;rw [if_pos e]) zb
  ·by_cases e2:i=q
   ·exact d ld.length zb (λj=>by unfold ym;rw [if_neg e,if_pos e2]) (λj=>by unfold ym;rw [if_neg e,if_pos e2]) zb
   ·exact d i hi (λj=>by unfold ym;rw [if_neg e,if_neg e2]) (λj=>by unfold ym;rw [if_neg e,if_neg e2]) (Or.inl rfl)
 det:=by
  rw [h.det];exact uh λi hi j _=>by unfold ym;rw [if_neg zb,if_neg zb]
def wU (n m c:Nat)(a s:Nat->Nat->Rat):Prop:=∃t,xy n m c a t (List.range c) (zD s c)/\∀i,c<=i->i<n->∀j,c<=j->j<m->t i j=s i j
theorem wU.start (n m:Nat)(a:Nat->Nat->Rat):wU n m 0 a a:=⟨a,xy.start n m a,λ_ _ _ _ _ _=>rfl⟩
theorem wU.xch_ {q:Nat}(h:wU n m c a s)(h1:c<q)(h2:q<n):wU n m c (ym c q a) (ym c q s):=by
 obtain⟨t,h3,h4⟩:=h;have e:zD (ym c q s) c=zD s c:=by
  unfold zD ym
  split
  ·rfl
  ·rw [if_neg zb,if_neg zb]
 have h5:=h3.xch_ (q:=q) (by rw [XJ];exact h1) h2;rw [XJ] at h5;refine⟨_,by rw [e];exact h5,λi hi g j hj d=>?_⟩;unfold ym
 split
 ·exact h4 q zb h2 j hj d
 ·split
  ·exact h4 c (qX c) zb j hj d
  ·exact h4 i hi g j hj d
theorem wU.step {s s':Nat->Nat->Rat}(h:wU n m c a s)(hc:c<n)(hm:c<m)(h0:s c c≠0)(e:∀i,c<i->i<n->∀j,c<j->j<m->s' i j=(zD s c)⁻¹*(s c c*s i j+ -s i c*s c j))(e0:s' c c=s c c):wU n m (c+1) a s':=by
 obtain⟨t,h3,h4⟩:=h;have d:=h4 c (qX c) hc c (qX c) hm;have h5:=h3.clear hm (by rw [XJ];exact hc) (by rw [XJ,d];exact h0);rw [XJ,d,<-yL] at h5;refine⟨_,by rw [ft,e0];exact h5,λi hi g j hj k=>?_⟩;unfold rv;rw [if_neg zb,e i hi g j hj k,d,h4 i zb g j zb k,h4 i zb g c (qX c) hm,h4 c (qX c) hc j zb k]
theorem wU.at_ {n:Nat}(h:wU n m c a s)(hn:n<=64)(ha:∀i,i<n->∀j,j<m->LI K (a i j)){i j:Nat}(h1:c<=i)(h2:i<n)(h3:c<=j)(h4:j<m):LI (67+65*K) (s i j):=by
 obtain⟨t,h5,h6⟩:=h;rw [<-h6 i h1 h2 j h3 h4];exact h5.sz hn ha h2 h4
theorem wU.det (h:wU n m n a s):zD s n=zH n a:=by
 obtain⟨t,h5,_⟩:=h;rw [h5.det,XJ];exact uh λi _ j hj=>by rw [qQ,xL hj];rfl
theorem wU.none (h:wU n n c a s)(hc:c<n)(h0:∀i,c<=i->i<n->s i c=0):zH n a=0:=by
 obtain⟨t,h5,h6⟩:=h;have hp:=h5.ne;have hg:∀l,l<c->(List.range c).getD l 0=l:=λl hl=>by rw [qQ,xL hl];rfl
 refine rG (v:=λj=>if j=c then 1 else if j<c then -(zD s c)⁻¹*t j c else 0) hc (if_pos rfl) λi hi=>?_;have hb:=h5.back i hi c hc;rw [XJ] at hb;have e0:(if c<=i then t i c else 0)=0:=by
  split
  ·next e=>rw [h6 i e hi c (qX c) hc];exact h0 i e hi
  ·rfl
 rw [e0,xK] at hb;have e1:zq n (λj=>a i j*(if j=c then 1 else if j<c then -(zD s c)⁻¹*t j c else 0))=zq n (λj=>(if j=c then 1 else 0)*a i j) - zq n (λj=>if j<c then(zD s c)⁻¹*(a i j*t j c) else 0):=by
  rw [<-pN];refine ya λj _=>?_;by_cases e:j=c
  ·rw [if_pos e,if_pos e,if_neg zb];grind
  ·rw [if_neg e,if_neg e]
   split<;>grind
 rw [e1,je hc (λj=>a i j)];have cut:∀d,zq (c+d) (λj=>if j<c then(zD s c)⁻¹*(a i j*t j c) else 0)=zq c (λj=>(zD s c)⁻¹*(a i j*t j c)):=λd=>by
  induction d with
  |zero=>exact ya λj hj=>if_pos hj
  |succ d ih=>rw [<-xA,xw,ih,if_neg zb,xK]
 have:=cut (n - c);rw [show c+(n - c)=n by omega] at this;rw [this,<-wM,ya (g:=λl=>a i ((List.range c).getD l 0)*t l c) λl hl=>by rw [hg l hl],<-hb]
 grind
theorem pM {m:Nat}(h:m<=n){f:Nat->Rat}(h0:∀k,m<=k->k<n->f k=0):zq n f=zq m f:=by
 obtain⟨d,rfl⟩:=Nat.le.dest h;clear h
 induction d with
 |zero=>rfl
 |succ d ih=>rw [<-xA,xw,h0 (m+d) zb zb,xK,ih λk h1 h2=>h0 k h1 zb]
theorem wK.all (h:wK n n a s){i j:Nat}(hi:i<n)(hj:j<n):a i j=zq n λk=>if k<=i/\k<=j then x6 s i j k else 0:=by
 rw [h.eq i hi j hj,if_neg zb,xK]
theorem wK.turn (h:wK n n a s):wK n n (λi j=>a j i) (λi j=>s j i) where
 cn:=h.cn
 ne:=h.ne
 eq:=λi hi j hj=>by
  rw [if_neg zb,xK,h.all hj hi];refine ya λk _=>?_;have hp:zD (λi j=>s j i) k=zD s k:=rfl;by_cases e:k<=i/\k<=j
  ·rw [if_pos e,if_pos ⟨e.2,e.1⟩];unfold x6;rw [hp];grind
  ·rw [if_neg e,if_neg λx=>e ⟨x.2,x.1⟩]
theorem wU.turn (h:zD s n=zH n a):zD (λi j=>s j i) n=zH n (λi j=>a j i):=by
 rw [RN,<-h];rfl
def uf (n:Nat)(s:Nat->Nat->Rat)(c:Nat):Nat->Nat->Rat:=λi j=>if c<=i/\c<=j then zD s c*zq n (λk=>if c<=k/\k<=i/\k<=j then x6 s i j k else 0) else s i j
theorem VQ (hc:c<n)(f:Nat->Rat)(p:Nat->Bool):zq n (λk=>if c<=k/\p k=true then f k else 0)=(if p c=true then f c else 0)+zq n (λk=>if c+1<=k/\p k=true then f k else 0):=by
 rw [<-je hc (λk=>if p k=true then f k else 0),<-tY];refine ya λk _=>?_;by_cases e:k=c
 ·subst e;rw [if_pos rfl,if_neg (by omega:¬(k+1<=k/\_))];by_cases q:p k=true
  ·rw [if_pos ⟨qX _,q⟩,if_pos q];grind
  ·rw [if_neg λx=>q x.2,if_neg q];grind
 ·rw [if_neg e,XR,yD];by_cases q:c<=k/\p k=true
  ·rw [if_pos q,if_pos ⟨zb,q.2⟩]
  ·rw [if_neg q,if_neg λx=>q ⟨zb,x.2⟩]
theorem Ve {c:Nat}(s:Nat->Nat->Rat)(hc:c<n)(hi:c<=i)(hj:c<=j):zq n (λk=>if c<=k/\k<=i/\k<=j then x6 s i j k else 0)=x6 s i j c+zq n (λk=>if c+1<=k/\k<=i/\k<=j then x6 s i j k else 0):=by
 have h:=VQ hc (x6 s i j) (λk=>decide (k<=i/\k<=j));simp only [decide_eq_true_eq] at h;rw [h,if_pos ⟨hi,hj⟩]
theorem pI (s:Nat->Nat->Rat)(h:i<=c\/j<=c):zq n (λk=>if c+1<=k/\k<=i/\k<=j then x6 s i j k else 0)=0:=uE λk _=>if_neg zb
theorem dD {n:Nat}(hc:c<n)(h0:s c c≠0)(hp:zD s c≠0)(hi:c<=i)(hj:c<=j)(h:i=c\/j=c):uf n s c i j=s i j:=by
 unfold uf;rw [if_pos ⟨hi,hj⟩,Ve s hc hi hj,pI s zb];unfold x6;rcases h with rfl|rfl<;>grind
theorem kM (s:Nat->Nat->Rat):zD (uf n s c) c=zD s c:=by
 unfold zD uf
 split
 ·rfl
 ·rw [if_neg zb]
theorem pJ (hc:c<n)(h0:s c c≠0)(hp:zD s c≠0)(hi:c<i)(hj:c<j):uf n s (c+1) i j=(zD (uf n s c) c)⁻¹*(uf n s c c c*uf n s c i j+ -uf n s c i c*uf n s c c j):=by
 rw [kM,dD hc h0 hp (qX c) (qX c) (Or.inl rfl),dD hc h0 hp zb (qX c) (Or.inr rfl),dD hc h0 hp (qX c) zb (Or.inl rfl)];unfold uf;rw [if_pos ⟨hi,hj⟩,if_pos ⟨zb,zb⟩,Ve (c:=c) s hc zb zb,ft];unfold x6;generalize zq n (λk=>if c+1<=k/\k<=i/\k<=j then s i k*s k j*(s k k*zD s k)⁻¹ else 0)=u
 grind
theorem pK {n m:Nat}{a s:Nat->Nat->Rat}(hm:n<=m)(ne:∀k,k<n->s k k≠0)(h:∀i,i<n->∀j,j<m->a i j=zq n (λk=>if 0<=k/\k<=i/\k<=j then x6 s i j k else 0)):∀c,c<=n->wU n m c a (uf n s c)
 |0,_=>⟨a,by
    have:=xy.start n m a;have e:zD (uf n s 0) 0=1:=rfl;rw [e];exact this,λi _ hi j _ hj=>by
    unfold uf;rw [if_pos ⟨qW _,qW _⟩,h i hi j hj];show _=(1:Rat)*_;rw [XG]⟩
 |c+1,hc=>by
   have hp:zD s c≠0:=by
    cases c with
    |zero=>show(1:Rat)≠0;decide+kernel
    |succ c=>exact ne c zb
   have h0:=ne c zb;have e0:=dD (n:=n) zb h0 hp (qX c) (qX c) (Or.inl rfl);refine(pK hm ne h c zb).step zb zb (by rw [e0];exact h0) (λi h1 _ j h3 _=>pJ zb h0 hp h1 h3) ?_;rw [e0];unfold uf;rw [if_neg zb]
structure tK (n:Nat)(s:Nat->Nat->Rat)(b:Nat->Rat)(X:Nat->Nat->Rat):Prop where
 ne:∀k,k<n->s k k≠0
 zero:∀i,i<n->X 0 i=b i
 step:∀c,c<n->∀i,i<n->X (c+1) i=if c<i then(zD s c)⁻¹*(s c c*X c i+ -X c c*s i c) else X c i
section
variable {n:Nat}{a s:Nat->Nat->Rat}{b:Nat->Rat}{X:Nat->Nat->Rat}
theorem tK.pr (h:tK n s b X){k:Nat}(hk:k<=n):zD s k≠0:=by
 cases k with
 |zero=>show(1:Rat)≠0;decide+kernel
 |succ k=>exact h.ne k zb
theorem tK.late (h:tK n s b X){i:Nat}(hi:i<n):∀d,i+d<=n->X (i+d) i=X i i
 |0,_=>rfl
 |d+1,hd=>by
   rw [<-xA,h.step _ zb i hi,if_neg zb];exact h.late hi d zb
theorem tK.late' (h:tK n s b X){i c:Nat}(hi:i<n)(hc:i<=c)(a:c<=n):X c i=X i i:=by
 obtain⟨d,rfl⟩:=Nat.le.dest hc;exact h.late hi d a
theorem tK.eq (h:tK n s b X):∀c,c<=n->∀i,i<n->b i=zq c (λk=>if k<=i then s i k*X k k*(s k k*zD s k)⁻¹ else 0)+if c<=i then(zD s c)⁻¹*X c i else 0
 |0,_,i,hi=>by
   rw [gT,if_pos (qW _),h.zero i hi];show b i=0+(1:Rat)⁻¹*b i
   grind
 |c+1,hc,i,hi=>by
   have h0:=h.ne c zb;have hp:=h.pr (k:=c) zb;rw [h.eq c zb i hi,xw,h.step c zb i hi,ft];by_cases e:c<=i
   ·rw [if_pos e,if_pos e];by_cases e2:c<i
    ·rw [if_pos (by omega:c+1<=i),if_pos e2];grind
    ·have:i=c:=zb;subst this;rw [if_neg zb];grind
   ·rw [if_neg e,if_neg e,if_neg zb];grind
def uu (n:Nat)(s:Nat->Nat->Rat)(x:Nat->Rat):Nat->Nat->Rat:=λi j=>if j<n then s i j else x i
theorem Zw (hk:k<=n):zD (uu n s x) k=zD s k:=by
 unfold zD uu
 split
 ·rfl
 ·rw [if_pos zb]
theorem Um (hk:k<n):x6 (uu n s x) i n k=s i k*x k*(s k k*zD s k)⁻¹:=by
 unfold x6;rw [Zw zb];unfold uu;rw [if_pos hk,if_neg (Nat.lt_irrefl n),if_pos hk]
theorem rn (hk:k<n)(hj:j<n):x6 (uu n s x) i j k=x6 s i j k:=by
 unfold x6;rw [Zw zb];unfold uu;rw [if_pos hk,if_pos hj,if_pos hk]
theorem tK.sz (h:tK n s b X)(hs:wK n n a s){K:Nat}(hn:n<=64)(ha:∀i,i<n->∀j,j<n->LI K (a i j))(hb:∀i,i<n->LI K (b i)){c i:Nat}(hc:c<=n)(hi:i<n):LI (67+65*K) (X c i):=by
 have d:∀c i,c<=i->i<n->LI (67+65*K) (X c i):=λc i hc hi=>by
  have hL:=pK (n:=n) (m:=n+1) (a:=uu n a b) (s:=uu n s λk=>X k k) zb (λk hk=>by unfold uu;rw [if_pos hk];exact h.ne k hk) (λi hi j hj=>by
   by_cases e:j<n
   ·rw [show uu n a b i j=a i j by unfold uu;rw [if_pos e],hs.all hi e];refine ya λk hk=>?_;rw [rn hk e];by_cases q:k<=i/\k<=j
    ·rw [if_pos q,if_pos ⟨qW _,q⟩]
    ·rw [if_neg q,if_neg λx=>q x.2]
   ·have e2:j=n:=zb;subst e2;rw [show uu j a b i j=b i by unfold uu;rw [if_neg e],h.eq j (qX _) i hi,if_neg zb,xK];refine ya λk hk=>?_;rw [Um hk];by_cases q:k<=i
    ·rw [if_pos q,if_pos ⟨qW _,q,zb⟩]
    ·rw [if_neg q,if_neg λx=>q x.2.1]) c zb
  have hx:X c i=uf n (uu n s λk=>X k k) c i n:=by
   unfold uf;rw [if_pos ⟨hc,zb⟩,Zw zb];have h1:=h.eq c zb i hi;have h2:=h.eq n (qX _) i hi;have hp:=h.pr (k:=c) zb;rw [if_pos hc] at h1;rw [if_neg zb,xK] at h2;have e1:zq n (λk=>if k<=i then s i k*X k k*(s k k*zD s k)⁻¹ else 0)=zq n (λk=>if k<c then(if k<=i then s i k*X k k*(s k k*zD s k)⁻¹ else 0) else 0)+zq n (λk=>if c<=k/\k<=i/\k<=n then x6 (uu n s λk=>X k k) i n k else 0):=by
    rw [<-tY];refine ya λk hk=>?_;rw [Um hk];by_cases q:k<c
    ·rw [if_pos q,if_neg (by omega:¬(c<=k/\_)),xK]
    ·rw [if_neg q,yD];by_cases q2:k<=i
     ·rw [if_pos q2,if_pos ⟨zb,q2,zb⟩]
     ·rw [if_neg q2,if_neg λx=>q2 x.2.1]
   have e2:zq n (λk=>if k<c then(if k<=i then s i k*X k k*(s k k*zD s k)⁻¹ else 0) else 0)=zq c (λk=>if k<=i then s i k*X k k*(s k k*zD s k)⁻¹ else 0):=by
    rw [pM (m:=c) zb λk h1 _=>if_neg zb];exact ya λk hk=>if_pos hk
   rw [e1,e2] at h2;generalize zq n (λk=>if c<=k/\k<=i/\k<=n then x6 (uu n s λk=>X k k) i n k else 0)=u at h2⊢;generalize zq c (λk=>if k<=i then s i k*X k k*(s k k*zD s k)⁻¹ else 0)=v at h1 h2;have:(zD s c)⁻¹*X c i=u:=by grind
   rw [<-this];grind
  rw [hx];exact hL.at_ hn (λi hi j hj=>by
   unfold uu
   split
   ·next e=>exact ha i hi j e
   ·exact hb i hi) hc hi zb zb
 by_cases e:c<=i
 ·exact d c i e hi
 ·rw [h.late' hi zb hc];exact d i i (qX i) hi
theorem tK.solves (h:tK n s b X)(hs:wK n n a s){D:Rat}{z:Nat->Rat}(hz:∀k,k<n->zq n (λj=>if k<=j then s k j*z j else 0)=D*X k k):∀i,i<n->zq n (λj=>a i j*z j)=D*b i:=λi hi=>by
 have e1:zq n (λj=>a i j*z j)=zq n λj=>zq n λk=>if k<=i/\k<=j then x6 s i j k*z j else 0:=ya λj hj=>by
  rw [hs.all hi hj,Qf];refine ya λk _=>?_
  split
  ·rfl
  ·exact XR _
 rw [e1,aY,h.eq n (qX _) i hi,if_neg zb,xK,wM];refine ya λk hk=>?_;by_cases e:k<=i
 ·rw [if_pos e];have e2:zq n (λj=>if k<=i/\k<=j then x6 s i j k*z j else 0)=s i k*(s k k*zD s k)⁻¹*zq n (λj=>if k<=j then s k j*z j else 0):=by
   rw [wM];refine ya λj _=>?_;by_cases q:k<=j
   ·rw [if_pos ⟨e,q⟩,if_pos q];unfold x6;grind
   ·rw [if_neg λx=>q x.2,if_neg q,xO]
  rw [e2,hz k hk];grind
 ·rw [if_neg e,uE λj _=>if_neg λx=>e x.1,xO]
theorem RK {z:Nat->Rat}(hn:n<=64)(ha:∀i,i<n->∀j,j<n->LI K (a i j))(hb:∀i,i<n->LI K (b i))(hD:zH n a≠0)(hz:∀i,i<n->zq n (λj=>a i j*z j)=zH n a*b i){k:Nat}(hk:k<n):z k=zH n (zL a k b)/\LI (65+64*K) (z k):=by
 have e1:=jO a hk z (λl i=>a i l) n;have e2:(zq n λl=>z l*zH n (zL a k λi=>a i l))=zq n λl=>(if l=k then 1 else 0)*(z l*zH n a):=ya λl hl=>by
  by_cases e:l=k
  ·rw [if_pos e,e,ic,XG]
  ·rw [if_neg e,gZ hk hl (Ne.symm e)];grind
 rw [e2,je hk (λl=>z l*zH n a)] at e1;have e3:zH n (zL a k λi=>zq n λl=>z l*a i l)=zH n a*zH n (zL a k b):=by
  rw [<-gX a hk];refine uh λi hi j _=>?_;unfold zL
  split
  ·show zq n (λl=>z l*a i l)=zH n a*b i;rw [<-hz i hi];exact ya λl _=>yM _ _
  ·rfl
 rw [e3] at e1;have e4:z k=zH n (zL a k b):=by grind
 refine⟨e4,?_⟩;rw [e4];refine(LI.det_ (K:=K) hn λi hi j hj=>?_).up ?_
 ·unfold zL
  split
  ·exact hb i hi
  ·exact ha i hi j hj
 ·have:n*(K+1)<=64*(K+1):=qS _ hn;omega
end
theorem Xm {z:Nat}{A:ze}{w:World}(hz:z<=255)(hc:n<=c)(hc2:c<=1048576):
  Calls prog 9 #[.agg #[.int .u8 (z:Int),.slice A n c],.int .i64 6] w (λe w'=>e=.returned (.agg #[.int .u8 ((z%7:Nat):Int),.slice A (min n (z%7)) c])/\Below w.heap.size w w'):=by
 obtain⟨m,hm⟩:∃m,z%7=m:=⟨_,rfl⟩;have j:(z:Int)%7=(m:Int):=zb;have hzt:(z:Int).tmod 7=(m:Int):=by rw [XA zb];exact j
 rw [hm];have bm:m<=6:=zb;have i0:(0:Int)<=(m:Int):=zb;obtain⟨g,a,h,-⟩:=yz w 24 24 #[.int .u8 (z:Int),.slice A n c] #[.int .u8 0,.slice none 0 0];obtain⟨p0,p1⟩:=a.c2;have sf0:=a.frozen 0;have k1:=a.set_ 0 (.int .u8 (m:Int));have k1:zh _ _ _ #[.int .u8 (m:Int),.slice A n c]:=k1;obtain⟨q0,q1⟩:=k1.c2;have sf1:=k1.frozen 1;have j1:=zh.far (p:=⟨w.heap.size,0,none⟩) h (by show w.heap.size+1≠w.heap.size;omega) (.int .u8 (m:Int));have i:=zM (p:=⟨w.heap.size,0,none⟩) (.int .u8 (m:Int)) (qX w.heap.size) g;by_cases hlt:m<n
 ·rw [show min n m=m by omega];have d1:decide ((n:Int)>(m:Int))=true:=decide_eq_true zb;have d2:decide ((m:Int)<(n:Int))=true:=decide_eq_true zb;have i1:(m:Int)<=(c:Int):=zb;have i2:(m:Int)<=(n:Int):=zb;have i3:m<=c:=zb;have k2:=k1.set_ 1 (.slice A m c);have k2:zh _ _ _ #[.int .u8 (m:Int),.slice A m c]:=k2;obtain⟨q2,q3⟩:=k2.c2;have j2:=zh.far (p:=⟨w.heap.size,1,none⟩) j1 (by show w.heap.size+1≠w.heap.size;omega) (.slice A m c);have k:=zM (p:=⟨w.heap.size,1,none⟩) (.slice A m c) (qX w.heap.size) i;obtain⟨o,t,s,u⟩:=ue j2 (.int .u8 (m:Int));obtain⟨r0,r1⟩:=(ud j2 (.int .u8 (m:Int)) (.slice A m c)).c2;have d:=za (yz w 24 24 #[.int .u8 (m:Int),.slice A m c] #[.int .u8 (m:Int),.slice A m c]).1;clear g a h k1 k2 j1 j2 i k hm j hz;go_enter func9,ntmps9;go_wp2;refine bodyPost_ret (v:=.agg #[.int .u8 (m:Int),.slice A m c]) (by simp [results,results9,go_sem,r0,r1]) rfl ?_;exact⟨rfl,d.o⟩
 ·rw [show min n m=n by omega];have d1:decide ((n:Int)>(m:Int))=false:=decide_eq_false zb;have d2:decide ((m:Int)<(n:Int))=false:=decide_eq_false zb;obtain⟨o,t,s,u⟩:=ue j1 (.int .u8 (m:Int));obtain⟨r0,r1⟩:=(ud j1 (.int .u8 (m:Int)) (.slice A n c)).c2;have d:=za (yz w 24 24 #[.int .u8 (m:Int),.slice A n c] #[.int .u8 (m:Int),.slice A n c]).1;clear g a h k1 j1 i hm j hz;go_enter func9,ntmps9;go_wp2;refine bodyPost_ret (v:=.agg #[.int .u8 (m:Int),.slice A n c]) (by simp [results,results9,go_sem,r0,r1]) rfl ?_;exact⟨rfl,d.o⟩
