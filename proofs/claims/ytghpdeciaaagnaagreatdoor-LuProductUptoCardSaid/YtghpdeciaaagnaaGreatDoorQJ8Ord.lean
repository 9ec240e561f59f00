/- What this claim leans on. -/
import Derived.Test.YtghpdeciaaagnaaGreatDoorQJ8Mul
import Derived.Test.YtghpdeciaaagnaaGreatDoorQMRow
namespace Go.Proofs.YtghpdeciaaagnaaGreatDoor
open Go Go.RowKit Go.Proofs.Tryz
set_option maxHeartbeats 16000000
set_option maxRecDepth 100000
set_option linter.unusedVariables false
set_option linter.unusedSimpArgs false
theorem zkY {K x:Nat}(h:Sz K x):bitLen x<=64*K:=zeO _ _ (by
 unfold Sz at h;rw [show(18446744073709551616:Nat)=2^64 from rfl,<-Nat.pow_mul] at h;exact h)
theorem zqY (r:Rat)(s:Rat)(o:Bool)(m:oA9)(i u:Nat)(B:oA9)(z J:Nat)(t:Bool)(n:oA9)(j y:Nat)(C:oA9)(A L:Nat)(w:World)(hT:zai w)(H:zaf w r o m i u B z J)(I:zaf w s t n j y C A L)(aa:zaU i z)(ab:zaU j A)(v:Int)(hv:zhN (r.num*((s.den:Nat):Int)) (s.num*((r.den:Nat):Int))=v):
  Calls prog 174 #[.agg #[.bool o,.slice m i u,.slice B z J],.agg #[.bool t,.slice n j y,.slice C A L]] w (zcL w v):=by
 have ac:=lh9 (zca (T:=zai));have HT:=up9 w (λw' hb=>hT.on hb);have HTB:=HT;obtain⟨K,Q⟩:∃K,67108864=K:=⟨_,rfl⟩;have hKK:K<=67108864:=om9;have hK0:0<K:=om9;have HV:=lh9 hv;have M:=up9 w (λw' b=>H.below b);obtain⟨af,O,R⟩:=H.2;have k:Hid (SzQ K r):=zaQ H aa Q;have F:Hid (Sz K r.num.natAbs):=k.out.num;have HZaaq:Hid (Sz K af):=zas k.out.den O;have D:=up9 w (λw' b=>H.1.below b);clear H aa O R;have N:=up9 w (λw' b=>I.below b);obtain⟨ag,P,S⟩:=I.2;have l:Hid (SzQ K s):=zaQ I ab Q;have G:Hid (Sz K s.num.natAbs):=l.out.num;have HZabq:Hid (Sz K ag):=zas l.out.den P;have E:=up9 w (λw' b=>I.1.below b);clear I ab P S;clear hT Q hv;go_enter func174,ntmps174;have hB:=Below.refl w.heap.size w;obtain⟨X,Y,Z,bz⟩:=zbO w 41 41 #[.bool o,.slice m i u,.slice B z J] #[.bool t,.slice n j y,.slice C A L];have hB:=zaa hB X;obtain⟨g1,e1,i1⟩:=Y.c3;obtain⟨g2,e2,i2⟩:=Z.c3;clear X Y Z bz;go_wp2_with fail;generalize (w.alloc (.cells #[.bool o,.slice m i u,.slice B z J] 41)).alloc (.cells #[.bool t,.slice n j y,.slice C A L] 41)=W1 at*;have U:Hid (Sz (K) (s.den)):=SzQ.den l.out;have C0:=up9 W1 (λw' h=>zcE (s) t n j y C A L w' (HT.out _ (zaa hB h)) (N.out _ (zaa hB h)) (szq l (N.out _ hB)));have ad:Hid (Sz (K+K) (r.num*((s.den:Nat):Int)).natAbs):=zhD F.out U.out;have C1:=up9 W1 (λw' h B3 m3 d3 (c:zad w' (s.den) B3 m3 d3)=>zgu (r.num) (s.den) o m i u B3 m3 d3 w' (HT.out _ (zaa hB h)) (D.out _ (zaa hB h)) c (szi F (D.out _ hB)) (szw U c));have V:Hid (Sz (K) (r.den)):=SzQ.den k.out;have C2:=up9 W1 (λw' h=>zcE (r) o m i u B z J w' (HT.out _ (zaa hB h)) (M.out _ (zaa hB h)) (szq k (M.out _ hB)));have ae:Hid (Sz (K+K) (s.num*((r.den:Nat):Int)).natAbs):=zhD G.out V.out;have C3:=up9 W1 (λw' h B5 m5 d5 (f:zad w' (r.den) B5 m5 d5)=>zgu (s.num) (r.den) t n j y B5 m5 d5 w' (HT.out _ (zaa hB h)) (E.out _ (zaa hB h)) f (szi G (E.out _ hB)) (szw V f));have C4:=up9 W1 (λw' h b4 B4 m4 d4 (d:zaN w' (r.num*((s.den:Nat):Int)) b4 B4 m4 d4) b6 B6 m6 d6 (g:zaN w' (s.num*((r.den:Nat):Int)) b6 B6 m6 d6)=>zcu (v:=v) (HV.out) (ac.out.cmp (r.num*((s.den:Nat):Int)) (s.num*((r.den:Nat):Int)) b4 b6 B4 B6 m4 m6 d4 d6 w' (HT.out _ (zaa hB h)) d g (szi ad d) (szi ae g)));have a:=(Below.refl W1.heap.size W1).drew;refine rg (csc g1 (csc e1 (csc i1 (csc g2 (csc e2 (csc i2 csn)))))) (λhHeld=>?_);refine tk 0 ?_;refine tk 1 ?_;refine tk 2 ?_;refine tk 5 ?_;refine tk 6 ?_;refine tk 7 ?_;refine rc 3 (λK hK=>?_);go_simp;go_at_call 105;(with_reducible refine(C0.out _ a).mono ?_);rintro e wa2 ⟨B3,m3,d3,rfl,c,hb⟩;have a:=zaa a hb;refine hK.out _ _ (Cs.below hHeld hb) (λhHeld=>?_);clear hK K hb
 try simp only [sb9]
 refine rc 4 (λK hK=>?_);go_simp;go_at_call 203;(with_reducible refine(C1.out _ a _ _ _ c).mono ?_);rintro e wa3 ⟨b4,B4,m4,d4,rfl,d,hb⟩;have a:=zaa a hb;have c:=c.below hb;refine hK.out _ _ (Cs.below hHeld hb) (λhHeld=>?_);clear hK K hb
 try simp only [sb9]
 refine rc 8 (λK hK=>?_);go_simp;go_at_call 105;(with_reducible refine(C2.out _ a).mono ?_);rintro e wa4 ⟨B5,m5,d5,rfl,f,hb⟩;have a:=zaa a hb;have c:=c.below hb;have d:=d.below hb;refine hK.out _ _ (Cs.below hHeld hb) (λhHeld=>?_);clear hK K hb
 try simp only [sb9]
 refine rc 9 (λK hK=>?_);go_simp;go_at_call 203;(with_reducible refine(C3.out _ a _ _ _ f).mono ?_);rintro e wa5 ⟨b6,B6,m6,d6,rfl,g,hb⟩;have a:=zaa a hb;have c:=c.below hb;have d:=d.below hb;have f:=f.below hb;refine hK.out _ _ (Cs.below hHeld hb) (λhHeld=>?_);clear hK K hb
 try simp only [sb9]
 refine rc 10 (λK hK=>?_);go_simp;go_at_call 100;(with_reducible refine(C4.out _ a _ _ _ _ d _ _ _ _ g).mono ?_);rintro e wa6 ⟨rfl,hb⟩;have a:=zaa a hb;have c:=c.below hb;have d:=d.below hb;have f:=f.below hb;have g:=g.below hb;refine hK.out _ _ (Cs.below hHeld hb) (λhHeld=>?_);clear hK K hb
 try simp only [sb9]
 refine tk 11 ?_;refine rdn ?_;have hB:=zaa hB a;obtain⟨g1,e1,i1,g2,e2,i2⟩:=zac6 a g1 e1 i1 g2 e2 i2;clear a hHeld c d f g C0 C1 C2 C3 C4;go_wp2;go_ret;exact⟨by first|rfl|simp,hB⟩
theorem zpK (r s:Rat)(j:Bool)(f:oA9)(a l:Nat)(h:oA9)(c n:Nat)(k:Bool)(g:oA9)(b m:Nat)(i:oA9)(d o:Nat)(w:World)(hT:zai w)(t:zaf w r j f a l h c n)(u:zaf w s k g b m i d o)(v:zaU a c)(y:zaU b d):
  Calls prog 174 #[.agg #[.bool j,.slice f a l,.slice h c n],.agg #[.bool k,.slice g b m,.slice i d o]] w (zcL w (zgA r s)):=by
 exact zqY r s j f a l h c n k g b m i d o w hT t u v y (zgA r s) (znW r s).symm
theorem zoR (r:Rat)(s:Rat)(j:Bool)(f:oA9)(a l:Nat)(t:oA9)(n A:Nat)(k:Bool)(g:oA9)(d m:Nat)(u:oA9)(o B:Nat)(w:World)(hT:zai w)(y:zaf w r j f a l t n A)(z:zaf w s k g d m u o B)(P:zaU a n)(Q:zaU d o)(h0:r.num≠s.num):
  Calls prog 37 #[.agg #[.bool j,.slice f a l,.slice t n A],.agg #[.bool k,.slice g d m,.slice u o B]] w (λe w'=>e=.returned (.bool false)/\Below w.heap.size w w'):=by
 have R:=lh9 (zca (T:=zai));have HT:=up9 w (λw' hb=>hT.on hb);have HTB:=HT;obtain⟨K,I⟩:∃K,67108864=K:=⟨_,rfl⟩;have hKK:K<=67108864:=om9;have hK0:0<K:=om9;obtain⟨c,hc⟩:∃c,zhN r.num s.num=c:=⟨_,rfl⟩;have HC:=lh9 hc;have kb1:(c==0)=false:=by
  rw [beq_eq_false_iff_ne];intro h9;rw [h9] at hc;exact h0 ((ziH _ _).1 hc)
 clear hc;obtain⟨S,E,J⟩:=y.2;have C:Hid (SzQ K r):=zaQ y P I;have G:Hid (Sz K r.num.natAbs):=C.out.num;have HZaaq:Hid (Sz K S):=zas C.out.den E;have h:=up9 w (λw' b=>y.1.below b);clear y P E J;obtain⟨U,F,L⟩:=z.2;have D:Hid (SzQ K s):=zaQ z Q I;have H:Hid (Sz K s.num.natAbs):=D.out.num;have HZabq:Hid (Sz K U):=zas D.out.den F;have i:=up9 w (λw' b=>z.1.below b);clear z Q F L;clear hT I h0;go_enter func37,ntmps37;have hB:=Below.refl w.heap.size w;obtain⟨M,N,O,bz⟩:=zbO w 41 41 #[.bool j,.slice f a l,.slice t n A] #[.bool k,.slice g d m,.slice u o B];have hB:=zaa hB M;obtain⟨g1,e1,i1⟩:=N.c3;obtain⟨g2,e2,i2⟩:=O.c3;clear M N O bz;go_wp2_with fail;generalize (w.alloc (.cells #[.bool j,.slice f a l,.slice t n A] 41)).alloc (.cells #[.bool k,.slice g d m,.slice u o B] 41)=W1 at*;(with_reducible refine(zcu (v:=c) (HC.out) (R.out.cmp (r.num) (s.num) j k f g a d l m _ (HT.out _ hB) (h.out _ hB) (i.out _ hB) (szi G (h.out _ hB)) (szi H (i.out _ hB)))).mono ?_);rintro e wc2 ⟨rfl,hb⟩;have hB:=zaa hB hb;obtain⟨g1,e1,i1,g2,e2,i2⟩:=zac6 hb g1 e1 i1 g2 e2 i2;clear hb ;go_wp2;go_ret;exact⟨by first|rfl|simp,hB⟩
theorem zoS (r:Rat)(s:Rat)(t:Bool)(h:oA9)(a y:Nat)(j:oA9)(f E:Nat)(u:Bool)(i:oA9)(d z:Nat)(k:oA9)(g F:Nat)(w:World)(hT:zai w)(I:zaf w r t h a y j f E)(J:zaf w s u i d z k g F)(aa:zaU a f)(ab:zaU d g)(h0:r.num=s.num)(h1:r.den≠s.den):
  Calls prog 37 #[.agg #[.bool t,.slice h a y,.slice j f E],.agg #[.bool u,.slice i d z,.slice k g F]] w (λe w'=>e=.returned (.bool false)/\Below w.heap.size w w'):=by
 have ad:=lh9 (zca (T:=zai));have HT:=up9 w (λw' hb=>hT.on hb);have HTB:=HT;obtain⟨K,R⟩:∃K,67108864=K:=⟨_,rfl⟩;have hKK:K<=67108864:=om9;have hK0:0<K:=om9;obtain⟨G,A,C⟩:=I.2;have S:=lh9 A;have L:Hid (SzQ K r):=zaQ I aa R;have N:Hid (Sz K r.num.natAbs):=L.out.num;have O:Hid (Sz K G):=zas L.out.den A;have l:=up9 w (λw' b=>I.1.below b);have m:=up9 w (λw' b=>C.below b);clear I aa A C;obtain⟨H,B,D⟩:=J.2;have U:=lh9 B;have M:Hid (SzQ K s):=zaQ J ab R;have P:Hid (Sz K s.num.natAbs):=M.out.num;have Q:Hid (Sz K H):=zas M.out.den B;have n:=up9 w (λw' b=>J.1.below b);have o:=up9 w (λw' b=>D.below b);clear J ab B D;have ac:Hid (zhN r.num s.num=0):=(ziH _ _).2 h0;have Z:G≠H:=λh9=>h1 (by rw [S.out.1,U.out.1,h9]);obtain⟨c,hc⟩:∃c,zcG G H=c:=⟨_,rfl⟩;have HC:=lh9 hc;have kb1:(c==0)=false:=by
  rw [beq_eq_false_iff_ne];intro h9;rw [h9] at hc;rcases Nat.lt_trichotomy G H with h8|h8|h8
  ·rw [zev h8] at hc;omega
  ·exact Z h8
  ·rw [zfj h8] at hc;omega
 clear hc;clear Z;clear hT R h0 h1;go_enter func37,ntmps37;have hB:=Below.refl w.heap.size w;obtain⟨V,X,Y,bz⟩:=zbO w 41 41 #[.bool t,.slice h a y,.slice j f E] #[.bool u,.slice i d z,.slice k g F];have hB:=zaa hB V;obtain⟨g1,e1,i1⟩:=X.c3;obtain⟨g2,e2,i2⟩:=Y.c3;clear V X Y bz;go_wp2_with fail;generalize (w.alloc (.cells #[.bool t,.slice h a y,.slice j f E] 41)).alloc (.cells #[.bool u,.slice i d z,.slice k g F] 41)=W1 at*;(with_reducible refine(zcu (v:=0) (ac.out) (ad.out.cmp (r.num) (s.num) t u h i a d y z _ (HT.out _ hB) (l.out _ hB) (n.out _ hB) (szi N (l.out _ hB)) (szi P (n.out _ hB)))).mono ?_);rintro e wc2 ⟨rfl,hb⟩;have hB:=zaa hB hb;obtain⟨g1,e1,i1,g2,e2,i2⟩:=zac6 hb g1 e1 i1 g2 e2 i2;clear hb ;go_wp2_with fail;(with_reducible refine(zcu (v:=c) (HC.out) (zfo (G) (H) j k f g E F _ (m.out _ hB) (o.out _ hB) (szw O (m.out _ hB)) (szw Q (o.out _ hB)))).mono ?_);rintro e wc3 ⟨rfl,hb⟩;have hB:=zaa hB hb;obtain⟨g1,e1,i1,g2,e2,i2⟩:=zac6 hb g1 e1 i1 g2 e2 i2;clear hb ;go_wp2;go_ret;exact⟨by first|rfl|simp,hB⟩
theorem zoT (r:Rat)(s:Rat)(o:Bool)(g:oA9)(a u:Nat)(i:oA9)(d D:Nat)(t:Bool)(h:oA9)(c y:Nat)(j:oA9)(f E:Nat)(w:World)(hT:zai w)(F:zaf w r o g a u i d D)(G:zaf w s t h c y j f E)(Y:zaU a d)(Z:zaU c f)(h0:r.num=s.num)(h1:r.den=s.den):
  Calls prog 37 #[.agg #[.bool o,.slice g a u,.slice i d D],.agg #[.bool t,.slice h c y,.slice j f E]] w (λe w'=>e=.returned (.bool true)/\Below w.heap.size w w'):=by
 have ac:=lh9 (zca (T:=zai));have HT:=up9 w (λw' hb=>hT.on hb);have HTB:=HT;obtain⟨K,S⟩:∃K,67108864=K:=⟨_,rfl⟩;have hKK:K<=67108864:=om9;have hK0:0<K:=om9;obtain⟨H,z,B⟩:=F.2;have J:=lh9 z;have M:Hid (SzQ K r):=zaQ F Y S;have O:Hid (Sz K r.num.natAbs):=M.out.num;have P:Hid (Sz K H):=zas M.out.den z;have k:=up9 w (λw' b=>F.1.below b);have l:=up9 w (λw' b=>B.below b);clear F Y z B;obtain⟨I,A,C⟩:=G.2;have L:=lh9 A;have N:Hid (SzQ K s):=zaQ G Z S;have Q:Hid (Sz K s.num.natAbs):=N.out.num;have R:Hid (Sz K I):=zas N.out.den A;have m:=up9 w (λw' b=>G.1.below b);have n:=up9 w (λw' b=>C.below b);clear G Z A C;have aa:Hid (zhN r.num s.num=0):=(ziH _ _).2 h0;have ab:Hid (zcG H I=0):=by
  have e:H=I:=by
   by_cases h9:r.den=1
   ·rw [zgW J.out h9,zgW L.out (h1▸h9)]
   ·rw [(zeB J.out h9).2,(zeB L.out (h1▸h9)).2,h1]
  show _=_;rw [e];exact zgm rfl
 clear hT S h0 h1;go_enter func37,ntmps37;have hB:=Below.refl w.heap.size w;obtain⟨U,V,X,bz⟩:=zbO w 41 41 #[.bool o,.slice g a u,.slice i d D] #[.bool t,.slice h c y,.slice j f E];have hB:=zaa hB U;obtain⟨g1,e1,i1⟩:=V.c3;obtain⟨g2,e2,i2⟩:=X.c3;clear U V X bz;go_wp2_with fail;generalize (w.alloc (.cells #[.bool o,.slice g a u,.slice i d D] 41)).alloc (.cells #[.bool t,.slice h c y,.slice j f E] 41)=W1 at*;(with_reducible refine(zcu (v:=0) (aa.out) (ac.out.cmp (r.num) (s.num) o t g h a c u y _ (HT.out _ hB) (k.out _ hB) (m.out _ hB) (szi O (k.out _ hB)) (szi Q (m.out _ hB)))).mono ?_);rintro e wc2 ⟨rfl,hb⟩;have hB:=zaa hB hb;obtain⟨g1,e1,i1,g2,e2,i2⟩:=zac6 hb g1 e1 i1 g2 e2 i2;clear hb ;go_wp2_with fail;(with_reducible refine(zcu (v:=0) (ab.out) (zfo (H) (I) i j d f D E _ (l.out _ hB) (n.out _ hB) (szw P (l.out _ hB)) (szw R (n.out _ hB)))).mono ?_);rintro e wc3 ⟨rfl,hb⟩;have hB:=zaa hB hb;obtain⟨g1,e1,i1,g2,e2,i2⟩:=zac6 hb g1 e1 i1 g2 e2 i2;clear hb ;go_wp2;go_ret;exact⟨by first|rfl|simp,hB⟩
theorem zno (r s:Rat)(j:Bool)(f:oA9)(a l:Nat)(h:oA9)(c n:Nat)(k:Bool)(g:oA9)(b m:Nat)(i:oA9)(d o:Nat)(w:World)(hT:zai w)(t:zaf w r j f a l h c n)(u:zaf w s k g b m i d o)(v:zaU a c)(y:zaU b d):
  Calls prog 37 #[.agg #[.bool j,.slice f a l,.slice h c n],.agg #[.bool k,.slice g b m,.slice i d o]] w (λe w'=>e=.returned (.bool (decide (r=s)))/\Below w.heap.size w w'):=by
 by_cases h0:r.num=s.num
 ·by_cases h1:r.den=s.den
  ·rw [decide_eq_true (Rat.ext h0 h1)];exact zoT r s j f a l h c n k g b m i d o w hT t u v y h0 h1
  ·rw [decide_eq_false (λh9=>h1 (by rw [h9]))];exact zoS r s j f a l h c n k g b m i d o w hT t u v y h0 h1
 ·rw [decide_eq_false (λh9=>h0 (by rw [h9]))];exact zoR r s j f a l h c n k g b m i d o w hT t u v y h0
theorem rat_bits (r:Rat)(j:Bool)(i:oA9)(g k:Nat)(m:oA9)(l t:Nat)(w:World)(hT:zai w)(s:zaf w r j i g k m l t)(F:zaU g l):
  Calls prog 80 #[.agg #[.bool j,.slice i g k,.slice m l t]] w (zcL w ((bitLen r.num.natAbs+bitLen r.den:Nat):Int)):=by
 have G:=lh9 (zca (T:=zai));have HT:=up9 w (λw' hb=>hT.on hb);have HTB:=HT;obtain⟨K,C⟩:∃K,67108864=K:=⟨_,rfl⟩;have hKK:K<=67108864:=om9;have hK0:0<K:=om9;obtain⟨pa,D⟩:∃v,((bitLen r.num.natAbs:Nat):Int)=v:=⟨_,rfl⟩;obtain⟨pb,E⟩:∃v,((bitLen r.den:Nat):Int)=v:=⟨_,rfl⟩;have H:=lh9 D;have I:=lh9 E;have u:=up9 w (λw' b=>s.below b);obtain⟨P,y,z⟩:=s.2;have d:Hid (SzQ K r):=zaQ s F C;have o:Hid (Sz K r.num.natAbs):=d.out.num;have HZaaq:Hid (Sz K P):=zas d.out.den y;have n:=up9 w (λw' b=>s.1.below b);clear s F y z;have N:=zkY d.out.num;have O:=zkY d.out.den;have J:Hid (IntKind.i64.wrap (pa+pb)=((bitLen r.num.natAbs+bitLen r.den:Nat):Int)):=by
  show _=_;rw [IntKind.wrap_i64];omega
 clear hT C D E N O;go_enter func80,ntmps80;have hB:=Below.refl w.heap.size w;obtain⟨A,B,bz⟩:=zax w 41 #[.bool j,.slice i g k,.slice m l t];have hB:=zaa hB A;obtain⟨g1,e1,i1⟩:=B.c3;clear A B bz;go_wp2_with fail;generalize w.alloc (.cells #[.bool j,.slice i g k,.slice m l t] 41)=W1 at*;have L:Hid (Sz (K) (r.num.natAbs)):=o.out;have C0:=up9 W1 (λw' h=>G.out.abs (r.num) j i g k w' (HT.out _ (zaa hB h)) (n.out _ (zaa hB h)) (szi o (n.out _ hB)));have C1:=up9 W1 (λw' h B2 m2 d2 (c:zad w' (r.num.natAbs) B2 m2 d2)=>zcu (v:=pa) (H.out) (zmm (r.num.natAbs) B2 m2 d2 w' c (szw L c)));have M:Hid (Sz (K) (r.den)):=SzQ.den d.out;have C2:=up9 W1 (λw' h=>zcE (r) j i g k m l t w' (HT.out _ (zaa hB h)) (u.out _ (zaa hB h)) (szq d (u.out _ hB)));have C3:=up9 W1 (λw' h B3 m3 d3 (f:zad w' (r.den) B3 m3 d3)=>zcu (v:=pb) (I.out) (zmm (r.den) B3 m3 d3 w' f (szw M f)));have a:=(Below.refl W1.heap.size W1).drew;refine rg (csc g1 (csc e1 (csc i1 csn))) (λhHeld=>?_);refine tk 0 ?_;refine tk 1 ?_;refine tk 4 ?_;refine rc 2 (λK hK=>?_);go_simp;go_at_call 104;(with_reducible refine(C0.out _ a).mono ?_);rintro e wa2 ⟨B2,m2,d2,rfl,c,hb⟩;have a:=zaa a hb;refine hK.out _ _ (Cs.below hHeld hb) (λhHeld=>?_);clear hK K hb
 try simp only [sb9]
 refine rc 3 (λK hK=>?_);go_simp;go_at_call 151;(with_reducible refine(C1.out _ a _ _ _ c).mono ?_);rintro e wa3 ⟨rfl,hb⟩;have a:=zaa a hb;have c:=c.below hb;refine hK.out _ _ (Cs.below hHeld hb) (λhHeld=>?_);clear hK K hb
 try simp only [sb9]
 refine rc 5 (λK hK=>?_);go_simp;go_at_call 105;(with_reducible refine(C2.out _ a).mono ?_);rintro e wa4 ⟨B3,m3,d3,rfl,f,hb⟩;have a:=zaa a hb;have c:=c.below hb;refine hK.out _ _ (Cs.below hHeld hb) (λhHeld=>?_);clear hK K hb
 try simp only [sb9]
 refine rc 6 (λK hK=>?_);go_simp;go_at_call 151;(with_reducible refine(C3.out _ a _ _ _ f).mono ?_);rintro e wa5 ⟨rfl,hb⟩;have a:=zaa a hb;have c:=c.below hb;have f:=f.below hb;refine hK.out _ _ (Cs.below hHeld hb) (λhHeld=>?_);clear hK K hb
 try simp only [sb9]
 refine tk 7 ?_;refine tk 8 ?_;refine rdn ?_;have hB:=zaa hB a;obtain⟨g1,e1,i1⟩:=zac3 a g1 e1 i1;clear a hHeld c f C0 C1 C2 C3;go_wp2;go_ret;exact⟨by rw [<-J.out];rfl,hB⟩
section
variable {K K':Nat}{x y:Rat}{b b':Bool}{A A':oA9}{n n' c c':Nat}{E E':oA9}{k k' f f':Nat}{w:World}
theorem q_add (hT:zai w)(h:zaf w x b A n c E k f)(h':zaf w y b' A' n' c' E' k' f')(z:SzQ K x)(z':SzQ K' y)(hK:K<=67108864:=by omega)(a:K'<=67108864:=by omega):
  Calls prog 126 #[.agg #[.bool b,.slice A n c,.slice E k f],.agg #[.bool b',.slice A' n' c',.slice E' k' f']] w (zaE w (x+y)):=ziM x y b A n c E k f b' A' n' c' E' k' f' w hT h h' (z.fit h hK) (z'.fit h' a)
theorem q_sub (hT:zai w)(h:zaf w x b A n c E k f)(h':zaf w y b' A' n' c' E' k' f')(z:SzQ K x)(z':SzQ K' y)(hK:K<=67108864:=by omega)(a:K'<=67108864:=by omega):
  Calls prog 171 #[.agg #[.bool b,.slice A n c,.slice E k f],.agg #[.bool b',.slice A' n' c',.slice E' k' f']] w (zaE w (x - y)):=zpN x y b A n c E k f b' A' n' c' E' k' f' w hT h h' (z.fit h hK) (z'.fit h' a)
theorem zcM (hT:zai w)(h:zaf w x b A n c E k f)(h':zaf w y b' A' n' c' E' k' f')(z:SzQ K x)(z':SzQ K' y)(hK:K<=67108864:=by omega)(a:K'<=67108864:=by omega):
  Calls prog 38 #[.agg #[.bool b,.slice A n c,.slice E k f],.agg #[.bool b',.slice A' n' c',.slice E' k' f']] w (zaE w (x*y)):=zpL x y b A n c E k f b' A' n' c' E' k' f' w hT h h' (z.fit h hK) (z'.fit h' a)
theorem q_cmp (hT:zai w)(h:zaf w x b A n c E k f)(h':zaf w y b' A' n' c' E' k' f')(z:SzQ K x)(z':SzQ K' y)(hK:K<=67108864:=by omega)(a:K'<=67108864:=by omega):
  Calls prog 174 #[.agg #[.bool b,.slice A n c,.slice E k f],.agg #[.bool b',.slice A' n' c',.slice E' k' f']] w (zcL w (zgA x y)):=zpK x y b A n c E k f b' A' n' c' E' k' f' w hT h h' (z.fit h hK) (z'.fit h' a)
theorem q_same {t:Bool}(e:decide (x=y)=t)(hT:zai w)(h:zaf w x b A n c E k f)(h':zaf w y b' A' n' c' E' k' f')(z:SzQ K x)(z':SzQ K' y)(hK:K<=67108864:=by omega)(a:K'<=67108864:=by omega):
  Calls prog 37 #[.agg #[.bool b,.slice A n c,.slice E k f],.agg #[.bool b',.slice A' n' c',.slice E' k' f']] w (λe w'=>e=.returned (.bool t)/\Below w.heap.size w w'):=zaB e (zno x y b A n c E k f b' A' n' c' E' k' f' w hT h h' (z.fit h hK) (z'.fit h' a))
theorem zhX {t:Bool}(e:decide (x=0)=t)(hT:zai w)(h:zaf w x b A n c E k f)(z:SzQ K x)(hK:K<=67108864:=by omega):
  Calls prog 17 #[.agg #[.bool b,.slice A n c,.slice E k f]] w (λe w'=>e=.returned (.bool t)/\Below w.heap.size w w'):=zaB e (zbg x b A n c E k f w hT h (z.fit h hK))
end
theorem en_mul:∀(args:Array Value) (w':World),Sem.run prog (callFunc 38 args) w'=.ok (.enter 38 args) w':=Go.Proofs.enters_of func38 kr9 rfl
theorem en_addt:∀(args:Array Value) (w':World),Sem.run prog (callFunc 125 args) w'=.ok (.enter 125 args) w':=Go.Proofs.enters_of func125 kr9 rfl
theorem zaH.rats {w:World}{A:oA9}{n c:Nat}{xs:List Rat}(h:zaH w A n c xs):ziU w A n c xs:=⟨h.len,h.fits,h.most,λi hi=>h.at_ hi 0⟩
theorem sum_is (rs:List Rat):ziE rs=zdO rs:=rfl
theorem q_sum {K n c:Nat}{A:oA9}{xs:List Rat}{w:World}(hT:zai w)(h:zaH w A n c xs)(hx:zat K xs)(hn:n<=1073741824)(hK:1+n*(K+1)<=67108864):
  Calls prog 122 #[.slice A n c] w (zaE w (zdO xs)):=by
 have hl:=h.len;have e:=sum_is xs;rw [<-e];refine rat_sum xs A n c (1+n*(K+1)) w hT h.rats hn hK (λi hi=>(hx.at_ om9).up ?_) (λk hk=>?_)
 ·have:K+1<=n*(K+1):=Nat.le_mul_of_pos_left _ om9;omega
 ·rw [sum_is];exact take_sz hx hl k hk
theorem znB {w:World}{g:Nat}{t:TypeId}{x:Rat}{b:Bool}{A:oA9}{n c:Nat}{E:oA9}{k f:Nat}(h:Blk w g t #[.bool b,.slice A n c,.slice E k f])(hx:zaf w x b A n c E k f):zaH w (some ⟨g,0,none⟩) 1 1 [x]:=
 ⟨rfl,Nat.le_refl _,de9,λi y hi=>by
  have h0:i=0:=by
   have:=(List.getElem?_eq_some_iff.1 hi).1;simpa using this
  subst h0;obtain rfl:x=y:=by simpa using hi
  exact⟨_,b,A,n,c,E,k,f,rfl,h.lt,by rw [zar];exact h.cell 0,by rw [zar];exact h.cell 1,by rw [zar];exact h.cell 2,hx⟩⟩
theorem zdz {K L:Nat}{r:Rat}{xs:List Rat}{A:oA9}{n c:Nat}{w:World}{s:Bool}{D:oA9}{m e9:Nat}{U:oA9}{u v:Nat}(hT:zai w)(hr:zaf w r s D m e9 U u v)(ha:zaH w A n c xs)(zr:SzQ L r)(hx:zat K xs)(hn:n<=1073741824:=by omega)(hK:K<=67108864:=by omega)(hL:L<=67108864:=by omega):
  Calls prog 132 #[.agg #[.bool s,.slice D m e9,.slice U u v],.slice A n c] w (zdq w n (zau r xs)):=by
 have M:=ha.len;have z:(zau r xs).length=n:=by unfold zau;rw [List.length_map];exact M
 have o:∀i,i<n->(zau r xs)[i]?=some (r*xs.getD i 0):=λi hi=>by
  unfold zau;rw [List.getElem?_map,List.getD_eq_getElem?_getD,List.getElem?_eq_getElem om9];rfl
 have T:Hid (∀i,i<n->SzQ K (xs.getD i 0)):=λi hi=>hx.at_ om9;unfold zdq;obtain⟨zs,O⟩:∃zs,zau r xs=zs:=⟨_,rfl⟩;rw [O] at o z⊢;have HG:=lh9 o;have F:=lh9 z;have V:=lh9 zr;obtain⟨G,H,bz⟩:=zax w 41 #[.bool s,.slice D m e9,.slice U u v];have HA:=lh9 ha;have HT:=up9 w (λw' hb=>hT.on hb);have HR:=up9 w (λw' hb=>hr.below hb);have l:=lh9 G;have t:=lh9 H;obtain⟨Z,hZ⟩:=zcQ n om9;have ae:=λW=>(hZ W).1;have h:=lh9 (λW=>(hZ W).2);clear hT hr ha zr hx M z O o hZ G H bz;have i0:(0:Int)<=(n:Int):=om9;go_enter func132,ntmps132;go_wp2_with fail;clear ae;obtain⟨W0,f⟩:∃W,w.alloc (.cells #[.bool s,.slice D m e9,.slice U u v] 41)=W:=⟨_,rfl⟩;rw [f] at l t;have a:=h.out W0;have I:=l.out;have hsz:W0.heap.size=w.heap.size+1:=by rw [<-f];simp
 simp only [f] at*;have y:Below W0.heap.size W0 (W0.alloc (.cells Z 41)):=(Below.refl _ W0).alloc (Nat.le_refl _) _;have b:=zab y t.out;have hB:=zaa I y;rw [hsz] at a;clear f l t I y hsz h;generalize W0.alloc (.cells Z 41)=W1 at*;obtain⟨gp,J⟩:∃g,w.heap.size+1=g:=⟨_,rfl⟩;rw [J] at a⊢;rw [<-zbk 0 zs n] at a;have hwg:w.heap.size+1<=gp:=om9;clear J
 go_loopg [13] (n+1) (λg ix wr=>∃(k:Nat),k<=n/\n<g+k/\ix=.int .i64 k/\zaI wr gp n (zbU 0 zs n k)/\Below w.heap.size w wr/\Blk wr w.heap.size 41 #[.bool s,.slice D m e9,.slice U u v])
 case atStart=>exact⟨0,Nat.zero_le _,om9,rfl,a,hB,b⟩
 case round=>
  clear a hB b;obtain⟨k,hkn,hg,rfl,a,hB,b⟩:=hrel;by_cases hlt:k<n
  ·obtain⟨ad,b1,B1,m1,d1,E1,u1,v1,rfl,-,X,Y,aa,hx⟩:=HA.out.get hB hlt;have ab:decide ((k:Int)<(n:Int))=true:=decide_eq_true om9;have i1:(0:Int)<=(k:Int):=om9;have i2:(k:Int)<(n:Int):=om9;obtain⟨st,d3,d4⟩:=zax wr 41 #[.bool b1,.slice B1 m1 d1,.slice E1 u1 v1];obtain⟨p0,p1,p2⟩:=d3.c3;obtain⟨g0,g1,g2⟩:=(zab st b).c3;have HX:=lh9 (hx.below st);have j:=lh9 (a.keep st);have d:=lh9 (zaa hB st);have E:=lh9 (zab st b);clear hx a hB st d3 d4 b;go_wp2_with fail;(with_reducible refine(zcM (HT.out _ d.out) (HR.out _ d.out) HX.out V.out (T.out k hlt) hL hK).mono ?_);rintro e w3 ⟨b3,A3,n3,c3,E3,k3,f3,rfl,N,hb⟩;clear X Y aa p0 p1 p2 g0 g1 g2;have B:=j.out.keep hb;have C:=zbm.set_ zak B hlt N;rw [zbv 0 zs n k F.out hlt _ (HG.out k hlt)] at C;obtain⟨q0,q1,q2,sc0,sf0,sc1,sf1,sc2,sf2⟩:=B.ready hlt (.bool b3) (.slice A3 n3 c3);have R:=lh9 C;have P:=lh9 (zcA (k*3) (k*3+1) (k*3+2) (.bool b3) (.slice A3 n3 c3) (.slice E3 k3 f3) (show w.heap.size<=gp by omega) (zaa d.out hb));have Q:=lh9 (Blk.far (p:=⟨gp,k*3+2,none⟩) (Blk.far (p:=⟨gp,k*3+1,none⟩) (Blk.far (p:=⟨gp,k*3,none⟩) (zab hb E.out) (by show w.heap.size≠gp;omega) (.bool b3)) (by show w.heap.size≠gp;omega) (.slice A3 n3 c3)) (by show w.heap.size≠gp;omega) (.slice E3 k3 f3));clear B C hb N HX j d E;go_wp2;go_roundg (n - k)
   case measure=>omega
   case rel=>exact⟨k+1,om9,om9,by go_num,R.out,P.out,Q.out⟩
  ·have hk:k=n:=om9;subst hk;have ab:decide ((k:Int)<(k:Int))=false:=si9;have S:=lh9 (zbu 0 zs k F.out▸a);have d:=lh9 hB;have ac:w.heap.size<=gp:=om9;clear a hB b;go_wp2;go_ret;exact⟨gp,rfl,ac,S.out,d.out⟩
structure zdQ (w:World)(A:oA9)(n:Nat)(zs:List Int):Prop where
 len:zs.length=n
 ints:∀i,i<n-> -9223372036854775808<=zs.getD i 0/\zs.getD i 0<=9223372036854775807
 num:∀i,i<n->∃ad:Addr,A=some ad/\w.cell? (ad.add i)=some (.int .i64 (zs.getD i 0))
def ofL (zs:List Int):List Rat:=zs.map λz:Int=>(z:Rat)
theorem zgh {zs:List Int}{A:oA9}{n c:Nat}{w:World}(hT:zai w)(ha:zdQ w A n zs)(hn:n<=1073741824:=by omega):
  Calls prog 60 #[.slice A n c] w (zdq w n (ofL zs)):=by
 have u:=ha.len;have j:(ofL zs).length=n:=by unfold ofL;rw [List.length_map];exact u
 have h:∀i,i<n->(ofL zs)[i]?=some ((zs.getD i 0:Int):Rat):=λi hi=>by
  unfold ofL;rw [List.getElem?_map,List.getD_eq_getElem?_getD,List.getElem?_eq_getElem om9];rfl
 have HI:=lh9 ha.ints;unfold zdq;obtain⟨ys,B⟩:∃ys,ofL zs=ys:=⟨_,rfl⟩;rw [B] at h j⊢;have HG:=lh9 h;have r:=lh9 j;have HA:=lh9 ha.num;have HT:=up9 w (λw' hb=>hT.on hb);obtain⟨Z,hZ⟩:=zcQ n om9;have G:=λW=>(hZ W).1;have d:=lh9 (λW=>(hZ W).2);clear hT ha u j B h hZ;have i0:(0:Int)<=(n:Int):=om9;go_enter func60,ntmps60;go_wp2_with fail;clear G;have a:=d.out w;have hB:Below w.heap.size w (w.alloc (.cells Z 41)):=(Below.refl _ w).alloc (Nat.le_refl _) _;obtain⟨gp,t⟩:∃g,w.heap.size=g:=⟨_,rfl⟩;have y:w.heap.size<=gp:=om9;rw [t] at a⊢;rw [<-zbk 0 ys n] at a;generalize w.alloc (.cells Z 41)=W1 at*;clear t d
 go_loopg [11] (n+1) (λg ix wr=>∃(k:Nat),k<=n/\n<g+k/\ix=.int .i64 k/\zaI wr gp n (zbU 0 ys n k)/\Below w.heap.size w wr)
 case atStart=>exact⟨0,Nat.zero_le _,om9,rfl,a,hB⟩
 case round=>
  clear a hB;obtain⟨k,hkn,hg,rfl,a,hB⟩:=hrel;by_cases hlt:k<n
  ·obtain⟨ad,rfl,hc⟩:=HA.out k hlt;have s:=zac hB hc;obtain⟨z1,z2⟩:=HI.out k hlt;have o:=lh9 (HG.out k hlt);obtain⟨z,hz⟩:∃z,zs.getD k 0=z:=⟨_,rfl⟩;rw [hz] at s z1 z2 o;have F:decide ((k:Int)<(n:Int))=true:=decide_eq_true om9;have i1:(0:Int)<=(k:Int):=om9;have i2:(k:Int)<(n:Int):=om9;have f:=lh9 a;have b:=lh9 hB;clear a hB hc hz;go_wp2_with fail;(with_reducible refine(zgt z _ (HT.out _ b.out) z1 z2).mono ?_);rintro e w3 ⟨b3,A3,n3,c3,E3,k3,f3,rfl,v,hb⟩;clear s;have l:=f.out.keep hb;have m:=zbm.set_ zak l hlt v;rw [zbv 0 ys n k r.out hlt _ o.out] at m;obtain⟨q0,q1,q2,sc0,sf0,sc1,sf1,sc2,sf2⟩:=l.ready hlt (.bool b3) (.slice A3 n3 c3);have D:=lh9 m;have C:=lh9 (zcA (k*3) (k*3+1) (k*3+2) (.bool b3) (.slice A3 n3 c3) (.slice E3 k3 f3) y (zaa b.out hb));clear l m hb v f b;go_wp2;go_roundg (n - k)
   case measure=>omega
   case rel=>exact⟨k+1,om9,om9,by go_num,D.out,C.out⟩
  ·have hk:k=n:=om9;subst hk;have F:decide ((k:Int)<(k:Int))=false:=si9;have E:=lh9 (zbu 0 ys k r.out▸a);have b:=lh9 hB;clear a hB;go_wp2;go_ret;exact⟨gp,rfl,y,E.out,b.out⟩
theorem znA {K:Nat}{xs:List Rat}{A:oA9}{n c:Nat}{w:World}(hT:zai w)(ha:zaH w A n c xs)(hx:zat K xs)(hn:n<=1073741824:=by omega)(hK:K+2<=67108864:=by omega):
  Calls prog 85 #[.slice A n c] w (zdq w n xs):=by
 have s:=ha.len;have HG:Hid (∀i,i<n->xs[i]?=some (xs.getD i 0)):=λi hi=>by
  rw [List.getD_eq_getElem?_getD,List.getElem?_eq_getElem om9];rfl
 have C:Hid (∀i,i<n->zat K [xs.getD i 0]):=λi hi y hy=>by
  rw [List.mem_singleton.1 hy];exact hx.at_ om9
 unfold zdq;have o:=lh9 s;have HA:=lh9 ha;have HT:=up9 w (λw' hb=>hT.on hb);obtain⟨Z,hZ⟩:=zcQ n om9;have H:=λW=>(hZ W).1;have f:=lh9 (λW=>(hZ W).2);clear hT ha hx s hZ;have i0:(0:Int)<=(n:Int):=om9;go_enter func85,ntmps85;go_wp2_with fail;clear H;have a:=f.out w;have hB:Below w.heap.size w (w.alloc (.cells Z 41)):=(Below.refl _ w).alloc (Nat.le_refl _) _;obtain⟨gp,r⟩:∃g,w.heap.size=g:=⟨_,rfl⟩;have t:w.heap.size<=gp:=om9;rw [r] at a⊢;rw [<-zbk 0 xs n] at a;generalize w.alloc (.cells Z 41)=W1 at*;clear r f
 go_loopg [11] (n+1) (λg ix wr=>∃(k:Nat),k<=n/\n<g+k/\ix=.int .i64 k/\zaI wr gp n (zbU 0 xs n k)/\Below w.heap.size w wr)
 case atStart=>exact⟨0,Nat.zero_le _,om9,rfl,a,hB⟩
 case round=>
  clear a hB;obtain⟨k,hkn,hg,rfl,a,hB⟩:=hrel;by_cases hlt:k<n
  ·obtain⟨ad,b1,B1,m1,d1,E1,u1,v1,rfl,-,D,E,F,hx⟩:=HA.out.get hB hlt;have G:decide ((k:Int)<(n:Int))=true:=decide_eq_true om9;have i1:(0:Int)<=(k:Int):=om9;have i2:(k:Int)<(n:Int):=om9;obtain⟨s1,t1,t2,t3⟩:=zbO wr 41 41 #[.bool b1,.slice B1 m1 d1,.slice E1 u1 v1] #[.bool b1,.slice B1 m1 d1,.slice E1 u1 v1];have u:=(zax wr 41 #[.bool b1,.slice B1 m1 d1,.slice E1 u1 v1]).2.1;obtain⟨p0,p1,p2⟩:=u.c3;have m:=lh9 (znB t2 (hx.below s1));have h:=lh9 (a.keep s1);have b:=lh9 (zaa hB s1);clear hx a hB s1 t1 t2 t3 u;go_wp2_with fail;(with_reducible refine(q_sum (HT.out _ b.out) m.out (C.out k hlt) de9 om9).mono ?_);rintro e w3 ⟨b3,A3,n3,c3,E3,k3,f3,rfl,d,hb⟩;clear D E F p0 p1 p2;have d:zaf w3 (xs.getD k 0) b3 A3 n3 c3 E3 k3 f3:=by
    have e:zdO [xs.getD k 0]=xs.getD k 0:=by rw [zfu,zkW,Rat.add_zero]
    rw [e] at d;exact d
   have j:=h.out.keep hb;have l:=zbm.set_ zak j hlt d;rw [zbv 0 xs n k o.out hlt _ (HG.out k hlt)] at l;obtain⟨q0,q1,q2,sc0,sf0,sc1,sf1,sc2,sf2⟩:=j.ready hlt (.bool b3) (.slice A3 n3 c3);have z:=lh9 l;have v:=lh9 (zcA (k*3) (k*3+1) (k*3+2) (.bool b3) (.slice A3 n3 c3) (.slice E3 k3 f3) t (zaa b.out hb));clear j l hb d h b m;go_wp2;go_roundg (n - k)
   case measure=>omega
   case rel=>exact⟨k+1,om9,om9,by go_num,z.out,v.out⟩
  ·have hk:k=n:=om9;subst hk;have G:decide ((k:Int)<(k:Int))=false:=si9;have B:=lh9 (zbu 0 xs k o.out▸a);have b:=lh9 hB;clear a hB;go_wp2;go_ret;exact⟨gp,rfl,t,B.out,b.out⟩
section
variable {P:Program}{ops:Array Oper}{Q:Exit->Act->World->Prop}{S:World->Prop}{fuel:Nat}{l:Array Bool}{a:Act}{w:World}
theorem rcb (i j:Nat){o p:Oper}(hk:∀K':Act->World->Prop,Shut (∀(a:Act) (w:World),S w->(S w->wpAnyH P .any ops (NoPanic Q) S fuel (l.setIfInBounds i true) a w)->K' a w)->Oper.wp P o a w K' (NoPanic Q))(hj:∀K':Act->World->Prop,Shut (∀(a:Act) (w:World),S w->(S w->wpAnyH P .any ops (NoPanic Q) S fuel (l.setIfInBounds j true) a w)->K' a w)->Oper.wp P p a w K' (NoPanic Q))(h1:ops[i]?=some o:=by simp only [List.getElem?_toArray,List.getElem?_cons_succ,List.getElem?_cons_zero];rfl)(b:ops[j]?=some p:=by simp only [List.getElem?_toArray,List.getElem?_cons_succ,List.getElem?_cons_zero];rfl)(h2:Region.ready .any ops l=[i,j]:=by kernel_rfl)(h3:Region.wanted o (yielded ops a.tmps)=true:=by rfl)(c:Region.wanted p (yielded ops a.tmps)=true:=by rfl):wpAnyH P .any ops (NoPanic Q) S (fuel+1) l a w:=
 wpAnyH_ready h2 si9 (AllReadyH.cons h1 (λK' hK=>by rw [if_pos h3];exact hk K' hK) (AllReadyH.cons b (λK' hK=>by rw [if_pos c];exact hj K' hK) AllReadyH.nil))
end
structure zfJ (w:World)(base g n cap:Nat)(Ls:List (List Rat)):Prop where
 ge:base<=g
 len:Ls.length=n
 fits:n<=cap
 most:cap<=9223372036854775807
 blk:∃cs:Array Value,Blk w g 61 cs/\(∀u ∈ cs.toList,zcv u)/\cs.size=cap
 num:∀i L,Ls[i]?=some L->∃(B:oA9) (d:Nat),w.cell? ⟨g,i,none⟩=some (.slice B L.length d)/\zaH w B L.length d L
theorem zfJ.below {w w':World}{a g n cap:Nat}{Ls:List (List Rat)}(h:zfJ w a g n cap Ls)(hb:Below w.heap.size w w'):zfJ w' a g n cap Ls:=by
 refine⟨h.ge,h.len,h.fits,h.most,?_,λi L hi=>?_⟩
 ·obtain⟨cs,hk,h1,h2⟩:=h.blk;exact⟨cs,zab hb hk,h1,h2⟩
 ·obtain⟨B,d,h1,h2⟩:=h.num i L hi;exact⟨B,d,zac hb h1,zaH.keep h2 hb⟩
theorem zfJ.rows {w:World}{a g n cap:Nat}{Ls:List (List Rat)}(h:zfJ w a g n cap Ls):zaC (zaM zaf) w (some ⟨g,0,none⟩) n Ls:=
 ⟨h.len,λi L hi=>by
  obtain⟨cs,hk,_⟩:=h.blk;obtain⟨B,d,h1,h2⟩:=h.num i L hi;exact⟨_,B,d,rfl,hk.lt,by rw [zar];exact h1,h2⟩⟩
theorem LI.szq {K:Nat}{x:Rat}(h:LI K x)(hK:0<K):SzQ K x:=by
 obtain⟨z,rfl,hz⟩:=h;exact SzQ.whole hz hK
theorem part_den {x:Rat}{K L:Nat}(hz:SzQ K x):SzQ K ((x.den:Nat):Rat):=by
 by_cases hK:K=0
 ·subst hK;exact absurd hz.den (by have:=x.den_nz;unfold Sz;rw [Nat.pow_zero];omega)
 ·rw [<-Rat.intCast_natCast];exact SzQ.whole hz.den om9
theorem part_num {x:Rat}{K:Nat}(hz:SzQ K x):SzQ K (x.num:Rat):=by
 by_cases hK:K=0
 ·subst hK;exact absurd hz.den (by have:=x.den_nz;unfold Sz;rw [Nat.pow_zero];omega)
 ·exact SzQ.whole hz.num om9
theorem part_ne {x:Rat}(h:¬x.den=1):x≠0:=λe=>h (by rw [e];rfl)
theorem Blk.far3 {w:World}{g q:Nat}{t:TypeId}{cs:Array Value}(h:Blk w g t cs)(a:g≠q)(x y z:Value):Blk (((w.setCell ⟨q,0,none⟩ x).setCell ⟨q,1,none⟩ y).setCell ⟨q,2,none⟩ z) g t cs:=Blk.far (p:=⟨q,2,none⟩) (Blk.far (p:=⟨q,1,none⟩) (Blk.far (p:=⟨q,0,none⟩) h a x) a y) a z
theorem zjp:((1:Int):Rat)=1:=by decide+kernel
theorem zrB:zao []=1:=rfl
structure RefM (w:World)(A:oA9)(n c m:Nat)(M:List (List Rat)):Prop where
 dims:zaY M n m
 fits:n<=c
 most:c<=9223372036854775807
 hn:n<=64
 hm:m<=64
 rows:zaC (zaM RefQ) w A n M
 ty:∀ad,A=some ad->ziY w ad.block 70
theorem RefM.keep {w w':World}{A:oA9}{n c m:Nat}{M:List (List Rat)}(h:RefM w A n c m M)(hb:Below w.heap.size w w'):RefM w' A n c m M:={h with rows:=h.rows.below (zaA zgV) hb,ty:=λad e=>(h.ty ad e).below hb}
theorem RefM.nil (w:World)(m:Nat)(h:m<=64):RefM w none 0 0 m []:=⟨zmt m,Nat.le_refl _,de9,de9,h,zaC.nil w none,λad e=>by cases e⟩
theorem RefM.row {w wr:World}{A:oA9}{n c m:Nat}{M:List (List Rat)}(h:RefM w A n c m M)(hb:Below w.heap.size w wr){i:Nat}(hi:i<n):∃(ad:Addr) (B:oA9) (d:Nat),A=some ad/\ad.block<w.heap.size/\wr.cell? (ad.add i)=some (.slice B m d)/\zhK wr B m d (M.getD i []):=
 h.rows.get (zaA zgV) hb hi (h.dims.row hi)
