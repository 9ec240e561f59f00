/- What this claim leans on. -/
import Derived.Test.YtielpgdebeggbaaGreatDoorWEDetM
set_option linter.unusedVariables false
set_option linter.unusedSimpArgs false
namespace Go.Proofs.YtielpgdebeggbaaGreatDoor
open Go Go.RowKit Go.Proofs.Tryz
set_option maxHeartbeats 16000000
variable {cs:Array Value}{vs:List Value}{a c d g k n:Nat}{M:Nat->Nat->Rat}{t:TypeId}{v:Value}{w w':World}{A:ze}
def yc (M:Nat->Nat->Rat)(k:Nat)(v:Nat->Rat):Nat->Nat->Rat:=λi j=>if i=k then v j else M i j
theorem aT (M:Nat->Nat->Rat)(v:Nat->Rat)(c:Nat):xj (yc M 0 v) c=xj M c:=by
 funext i j;unfold xj yc;rw [if_neg zb]
theorem fo (M:Nat->Nat->Rat)(k:Nat)(v:Nat->Rat)(c:Nat):xj (yc M (k+1) v) c=yc (xj M c) k λj=>v (yF c j):=by
 funext i j;unfold xj yc
 by_cases e:i=k
 ·rw [if_pos e,if_pos zb]
 ·rw [if_neg e,if_neg zb]
theorem gP:∀{n:Nat} (M:Nat->Nat->Rat) {k:Nat} (_:k<n) (a b:Rat) (u v:Nat->Rat),zH n (yc M k λj=>a*u j+b*v j)=a*zH n (yc M k u)+b*zH n (yc M k v)
 |0,M,k,hk,_,_,_,_=>by omega
 |n+1,M,0,hk,a,b,u,v=>by
   rw [vu,vu,vu,wM,wM,<-tY];refine ya λc _=>?_;rw [aT,aT,aT];show sg c*(a*u c+b*v c)*_=a*(sg c*u c*_)+b*(sg c*v c*_)
   grind
 |n+1,M,k+1,hk,a,b,u,v=>by
   rw [vu,vu,vu,wM,wM,<-tY];refine ya λc _=>?_;rw [fo,fo,fo,gP (xj M c) zb a b];have e:∀w:Nat->Rat,yc M (k+1) w 0 c=M 0 c:=λw=>by unfold yc;rw [if_neg zb]
   rw [e,e,e]
   grind
theorem WI (k:Nat)(f:Nat->Rat):zq (k+1) f=f 0+zq k λi=>f (i+1):=by
 induction k with
 |zero=>rw [xw];show(0:Rat)+f 0=f 0+0;grind
 |succ k ih=>rw [xw,ih,xw];grind
theorem mE {j:Nat}(h:d<=c):yF (c+1) (yF d j)=yF d (yF c j):=by
 unfold yF;by_cases h1:j<d
 ·rw [if_pos h1,if_pos (by omega:j<c),if_pos zb,if_pos h1]
 ·rw [if_neg h1];by_cases h2:j<c
  ·rw [if_pos h2,if_pos zb,if_neg h1]
  ·rw [if_neg h2,if_neg zb,if_neg zb]
theorem Vw (h:∀j,M 0 j=M 1 j):zH (n+2) M=0:=by
 obtain⟨g,hg⟩:∃g:Nat->Nat->Rat,∀c d,g c d=sg c*M 0 c*(sg d*M 1 (yF c d)*zH n (xj (xj M c) d)):=⟨_,λ_ _=>rfl⟩;have e1:zH (n+2) M=zq (n+2) λc=>zq (n+1) λd=>g c d:=by
  rw [vu];refine ya λc _=>?_;rw [vu,wM];exact ya λd _=>(hg c d).symm
 have a:∀c d,d<=c->g (c+1) d= -g d c:=λc d hd=>by
  rw [hg,hg];have s1:yF (c+1) d=d:=by unfold yF;rw [if_pos zb]
  have s2:yF d c=c+1:=by unfold yF;rw [if_neg zb]
  have s3:xj (xj M (c+1)) d=xj (xj M d) c:=by
   funext i j;unfold xj;rw [mE hd]
  rw [s1,s2,s3,h (c+1),h d,UW]
  grind
 have e2:∀c d,g c d=(if d<c then g c d else 0)+(if d<c then 0 else g c d):=λc d=>by
  by_cases q:d<c
  ·rw [if_pos q,if_pos q,xK]
  ·rw [if_neg q,if_neg q,yD]
 have e3:(zq (n+2) λc=>zq (n+1) λd=>g c d)=(zq (n+2) λc=>zq (n+1) λd=>if d<c then g c d else 0)+zq (n+2) λc=>zq (n+1) λd=>if d<c then 0 else g c d:=by
  rw [<-tY];refine ya λc _=>?_;rw [<-tY];exact ya λd _=>e2 c d
 have e4:(zq (n+2) λc=>zq (n+1) λd=>if d<c then g c d else 0)=zq (n+1) λc=>zq (n+1) λd=>if d<=c then g (c+1) d else 0:=by
  rw [WI,uE λd _=>by rw [if_neg zb],yD];exact ya λc _=>ya λd _=>by
   by_cases q:d<=c
   ·rw [if_pos q,if_pos zb]
   ·rw [if_neg q,if_neg zb]
 have e5:(zq (n+2) λc=>zq (n+1) λd=>if d<c then 0 else g c d)=zq (n+1) λd=>zq (n+1) λc=>if c<=d then g c d else 0:=by
  rw [aY];refine ya λd hd=>?_;rw [xw,if_pos zb,xK];exact ya λc _=>by
   by_cases q:c<=d
   ·rw [if_pos q,if_neg zb]
   ·rw [if_neg q,if_pos zb]
 rw [e1,e3,e4,e5,<-tY];refine uE λc _=>?_;rw [<-tY];refine uE λd _=>?_;by_cases q:d<=c
 ·rw [if_pos q,if_pos q,a c d q];grind
 ·rw [if_neg q,if_neg q];grind
theorem ZK (M:Nat->Nat->Rat)(k:Nat)(v:Nat->Rat)(j:Nat):yc M k v k j=v j:=if_pos rfl
theorem ig (M:Nat->Nat->Rat){k i:Nat}(h:i≠k)(v:Nat->Rat)(j:Nat):yc M k v i j=M i j:=if_neg h
theorem aX {l:Nat}(h:k≠l)(u v:Nat->Rat):yc (yc M k u) l v=yc (yc M l v) k u:=by
 funext i j
 unfold yc;by_cases e:i=l
 ·rw [if_pos e,if_neg zb,if_pos e]
 ·rw [if_neg e,if_neg e]
theorem lu {n k l:Nat}(hk:k<n)(hl:l<n)(c:k≠l)(same:∀M:Nat->Nat->Rat,(∀j,M k j=M l j)->zH n M=0)(M:Nat->Nat->Rat)(u v:Nat->Rat):zH n (yc (yc M k u) l v)= -zH n (yc (yc M k v) l u):=by
 have s:∀w:Nat->Rat,zH n (yc (yc M k w) l w)=0:=λw=>same _ λj=>by rw [ZK,ig _ c,ZK]
 have e1:∀a x y:Nat->Rat,zH n (yc (yc M k a) l λj=>1*x j+1*y j)=1*zH n (yc (yc M k a) l x)+1*zH n (yc (yc M k a) l y):=λa x y=>gP _ hl 1 1 x y;have e2:∀b x y:Nat->Rat,zH n (yc (yc M k λj=>1*x j+1*y j) l b)=1*zH n (yc (yc M k x) l b)+1*zH n (yc (yc M k y) l b):=λb x y=>by
  rw [aX c,aX c,aX c];exact gP _ hk 1 1 x y
 have h1:=s λj=>1*u j+1*v j;rw [e1,e2,e2,s u,s v] at h1
 grind
theorem gQ:∀{n:Nat} {M:Nat->Nat->Rat} {k l:Nat},k<l->l<n->(∀j,M k j=M l j)->zH n M=0
 |0,_,_,_,_,h,_=>by omega
 |n+1,M,k+1,l,hkl,hl,h=>by
   rw [vu];refine uE λc _=>?_;obtain⟨l',rfl⟩:∃q,l=q+1:=⟨l - 1,zb⟩;rw [gQ (n:=n) (M:=xj M c) (k:=k) (l:=l') zb zb λj=>h _,xO]
 |n+1,M,0,l,hkl,hl,h=>by
   obtain⟨n',rfl⟩:∃q,n=q+1:=⟨n - 1,zb⟩;by_cases e:l=1
   ·subst e;exact Vw h
   ·-- rows 1 and l are exchanged:below the first row all rows are known
    have e1:zH (n'+2) M= -zH (n'+2) (yc (yc M 1 (M l)) l (M 1)):=by
     rw [vu,vu,<-Zs];refine ya λc _=>?_;obtain⟨l',rfl⟩:∃q,l=q+1:=⟨l - 1,zb⟩;have f1:yc (yc M 1 (M (l'+1))) (l'+1) (M 1) 0 c=M 0 c:=by rw [ig _ zb,ig _ zb]
     have f2:xj (yc (yc M (0+1) (M (l'+1))) (l'+1) (M 1)) c=yc (yc (xj M c) 0 λj=>M (l'+1) (yF c j)) l' λj=>M 1 (yF c j):=by rw [fo,fo]
     have f3:xj M c=yc (yc (xj M c) 0 λj=>M 1 (yF c j)) l' λj=>M (l'+1) (yF c j):=by
      funext i j
      unfold yc;by_cases q1:i=l'
      ·rw [if_pos q1,q1];rfl
      ·rw [if_neg q1];by_cases q2:i=0
       ·rw [if_pos q2,q2];rfl
       ·rw [if_neg q2]
     have f4:=lu (n:=n'+1) (k:=0) (l:=l') zb zb zb (λN hN=>gQ (n:=n'+1) (M:=N) (k:=0) (l:=l') zb zb hN) (xj M c) (λj=>M 1 (yF c j)) (λj=>M (l'+1) (yF c j));rw [<-f3] at f4;rw [f1,f2,f4]
     grind
    rw [e1,Vw (M:=yc (yc M 1 (M l)) l (M 1)) λj=>by
     rw [ig _ zb,ig _ zb,ig _ zb,ZK];exact h j,Rat.neg_zero]
theorem RN (n:Nat)(M:Nat->Nat->Rat):zH n (λi j=>M j i)=zH n M:=by
 have ha:uw n λM=>zH n λi j=>M j i:=⟨λM N e=>uh λi hi j hj=>e j hj i hi,λM k hk a b u v=>by
   show zH n _=_;have e:∀w:Nat->Rat,(λi j=>zL M k w j i)=yc (λi j=>M j i) k w:=λw=>rfl;rw [e,e,e];exact gP _ hk a b u v,λM k l hk hl c e=>by
   show zH n (λi j=>M j i)=0;have e2:zH n (λi j=>M j i)=zH n λi j=>if j<n then M j i else 0:=uh λi _ j hj=>by rw [if_pos hj]
   rw [e2];rcases XK k l with a|a|a
   ·exact gQ a hl λj=>by
     by_cases q:j<n
     ·rw [if_pos q,if_pos q];exact e j q
     ·rw [if_neg q,if_neg q]
   ·exact absurd a c
   ·exact gQ a hk λj=>by
     by_cases q:j<n
     ·rw [if_pos q,if_pos q];exact(e j q).symm
     ·rw [if_neg q,if_neg q]⟩
 have h1:=ha.one_ (uw.det_ n) M;have h2:(λi j=>wE j i)=wE:=by
  funext i j;unfold wE
  by_cases e:i=j
  ·rw [if_pos e,if_pos e.symm]
  ·rw [if_neg e,if_neg (Ne.symm e)]
 rw [Zl,Rat.mul_one] at h1;have h3:zH n (λi j=>M j i)=zH n M*zH n (λi j=>wE j i):=h1;rw [h3,h2,Zl,Rat.mul_one]
set_option maxRecDepth 100000
theorem Qr {K K' L:Nat}{x y r:Rat}{b b' s:Bool}{A' D:ze}{n' m c':Nat}{E E' U:ze}{k' u f f' v:Nat}(g:Nat)(hT:zt w)(hr:zo w r s D m d U u v)(hk:zh w g 52 #[.bool s,.slice D m d,.slice U u v])
  (h:zo w x b A n c E k f) (h':zo w y b' A' n' c' E' k' f') (zx:zn K x) (zy:zn K' y) (zr:zn L r) (hK:K<=67108864) (hK':L+K'<=67108864):
  Calls prog 63 #[.agg #[.bool b,.slice A n c,.slice E k f],.agg #[.bool b',.slice A' n' c',.slice E' k' f'],.pointer (some ⟨g,0,none⟩)] w (yi w (x+r*y)):=by
 have HT:=zj w (λw' hb=>hT.on hb);have HX:=zj w (λw' hb=>h.below hb);have HY:=zj w (λw' hb=>h'.below hb);have HR:=zj w (λw' hb=>hr.below hb);have HK:=zj w (λw' hb=>zg hb hk);have M:=za zx;have o:=za zy;have j:=za zr;clear hT hr hk h h' zx zy zr;obtain⟨t,z,B,C,bz⟩:=y9 w 52 52 52 #[.bool b,.slice A n c,.slice E k f] #[.bool b',.slice A' n' c',.slice E' k' f'] #[.bool false,.slice none 0 0,.slice none 0 0];have i:=za t;have H:=za z;have I:=za B;have J:=za C;clear t z B C bz;go_enter func63,ntmps63;go_wp2_with fail;generalize ((w.alloc (.cells #[.bool b,.slice A n c,.slice E k f] 52)).alloc (.cells #[.bool b',.slice A' n' c',.slice E' k' f'] 52)).alloc (.cells #[.bool false,.slice none 0 0,.slice none 0 0] 52)=W1 at*;obtain⟨p0,p1,p2⟩:=H.o.c3;obtain⟨q0,q1,q2⟩:=I.o.c3;obtain⟨g0,g1,g2⟩:=(HK.o _ i.o).c3;have hB:=i.o;have kr:=J.o;have a:=(qZ W1.heap.size W1).drew;refine rg (zk p0 (zk p1 (zk p2 (zk g0 (zk g1 (zk g2 (zk q0 (zk q1 (zk q2 zQ))))))))) (λhHeld=>?_);refine tk 0 ?_;refine tk 1 ?_;refine tk 2 ?_;refine rc 3 (λKK hK=>?_);go_simp;(with_reducible refine(vP (HT.o _ (zc hB a)) (HR.o _ (zc hB a)) (HY.o _ (zc hB a)) j.o o.o zb zb).mono ?_);rintro e wa ⟨b1,A1,n1,c1,E1,k1,f1,rfl,F,hb⟩;have a:=zc a hb;refine hK.out _ _ (Cs.below hHeld hb) (λhHeld=>?_);clear hK KK hb;refine rc 4 (λKK hK=>?_);go_simp;(with_reducible refine(gi (HT.o _ (zc hB a)) (HX.o _ (zc hB a)) F M.o (j.o.mul o.o) zb zb).mono ?_);rintro e wb ⟨b2,A2,n2,c2,E2,k2,f2,rfl,G,hb⟩;have a:=zc a hb;refine hK.out _ _ (Cs.below hHeld hb) (λhHeld=>?_);clear hK KK hb;have kr:=zg a kr;obtain⟨N,Q,O,R,P,S⟩:=zY kr (.bool b2) (.slice A2 n2 c2);obtain⟨r0,r1,r2⟩:=(z6 kr (.bool b2) (.slice A2 n2 c2) (.slice E2 k2 f2)).c3;have HG:=za (wR G kr (zc hB a) zb);refine rc 5 (λKK hK=>?_);go_simp;refine hK.out _ _ ?_ (λhHeld=>?_)
 ·have hg:g<w.heap.size:=by
   have h1:=(HK.o _ (qZ _ w)).lt;exact h1
  refine Cs.far hHeld (wB _ _ _ _ _) ?_;refine⟨?_,?_,?_,?_,?_,?_,?_,?_,?_,trivial⟩<;>(simp;try omega)
 clear hK KK;refine zN ?_;clear N Q O R P S hHeld F G kr;go_wp2;refine bodyPost_ret (v:=.agg #[.bool b2,.slice A2 n2 c2,.slice E2 k2 f2]) (by simp [results,results63,go_sem,r0,r1,r2]) rfl ?_;exact HG.o
section
variable {K K' L:Nat}{r:Rat}{xs ys:List Rat}{A B:ze}{n n' c d:Nat}{w:World}{s:Bool}{D:ze}{m e9:Nat}{U:ze}{u v:Nat}
theorem pT (hT:zt w)(ha:zR w A n c xs)(hr:zo w r s D m e9 U u v)(hb:zR w B n d ys)(hx:zE K xs)(zr:zn L r)(hy:zE K' ys)(hn:n<=1073741824:=by omega)(hK:K<=67108864:=by omega)(o:L+K'<=67108864:=by omega):
  Calls prog 22 #[.slice A n c,.agg #[.bool s,.slice D m e9,.slice U u v],.slice B n d] w (uX w n (vZ xs r ys)):=by
 have hla:=ha.len;have hlb:=hb.len;obtain⟨a,j,bz⟩:=zu w 52 #[.bool s,.slice D m e9,.slice U u v];have hmf:∀(fn:Fn) (first cap:Array Value) (w:World),(Instr.makeFunc fn first cap).run prog w=.ok (.func fn first cap) w:=λ_ _ _ _=>rfl;have H:=za (WK (λx y=>x+r*y) 63 #[.pointer (some ⟨w.heap.size,0,none⟩)] xs ys A B n c d _ (ha.keep a) (hb.keep a) hn nB (λi hi w' h b b' A A' n n' c c' E E' k k' f f' h1 h2=>
  Qr (w.heap.size) ((hT.on a).on h) ((hr.below a).below h) (zg h j) h1 h2 (hx.at_ zb) (hy.at_ zb) zr hK o))
 have hB:=a;clear ha hb hx hy hT hr a j bz;go_enter func22,ntmps22;go_wp2_with fail;refine H.o.mono ?_;rintro e w1 ⟨g,rfl,h1,h2,h3⟩;have HG:=za (And.intro (qH hB.size h1) (And.intro h2 (zc hB h3)));clear h1 h2 h3 hB;go_wp2
 go_ret2
 exact⟨g,rfl,HG.o⟩
end
theorem xe {xs:List Rat}(h:yh w g n xs)(hn:n<=1073741824:=by omega):zR w (some ⟨g,0,none⟩) n n xs:=wn.row h zb
section
variable {K K':Nat}{xs ys:List Rat}{A B:ze}{n n' c d:Nat}{w:World}
theorem jq (hT:zt w)(ha:zR w A n c xs)(hb:zR w B n d ys)(hx:zE K xs)(hy:zE K' ys)(hn:n<=1073741824:=by omega)(hK:K<=67108864:=by omega)(s:K'<=67108864:=by omega)(hS:1+n*(K+K'+1)<=67108864:=by omega):
  Calls prog 99 #[.slice A n c,.slice B n d] w (ug w (wP xs ys) true):=by
 have z:=ha.len;have C:=hb.len;obtain⟨a,j,bz⟩:=zu w 52 #[.bool false,.slice none 0 0,.slice none 0 0];have H:=za (WK (λx y=>x*y) 44 #[] xs ys A B n c d _ (ha.keep a) (hb.keep a) hn kf (λi hi w' u b b' A A' n n' c c' E E' k k' f f' h1 h2=>by
  rw [Array.append_empty];exact vP ((hT.on a).on u) h1 h2 (hx.at_ zb) (hy.at_ zb) hK s))
 have HT:=zj w (λw' hb=>hT.on hb);have hB:=a;have HK:=za j;have HS:=za (zE.mul hx hy);have hN:=hn;have t:=za hS;clear ha hb hx hy hT a j bz z C hS;go_enter func99,ntmps99;go_wp2_with fail;refine H.o.mono ?_;rintro e w1 ⟨g,rfl,-,h2,hb⟩;have hB:=zc hB hb;have hk:=zg hb HK.o;have HV:=za (xe h2 hN);clear hb HK h2 H;go_wp2_with fail;refine(pu (HT.o _ hB) HV.o HS.o hN t.o).mono ?_;rintro e w2 ⟨b2,A2,n2,c2,E2,k2,f2,rfl,o,hb⟩;have m:=zc hB hb;have h:=zg hb hk;obtain⟨sc0,sf0,sc1,sf1,sc2,sf2⟩:=zY h (.bool b2) (.slice A2 n2 c2);obtain⟨r0,r1,r2⟩:=(z6 h (.bool b2) (.slice A2 n2 c2) (.slice E2 k2 f2)).c3;have HG:=za (ll (r:=wP xs ys) true o h m (qX _));clear hb hB hk m h o HV HS;go_wp2;refine bodyPost_ret (v:=.tuple #[.agg #[.bool b2,.slice A2 n2 c2,.slice E2 k2 f2],.bool true]) (by simp [results,results99,go_sem,r0,r1,r2]) rfl ?_;exact HG.o
end
section
variable {α:Type}{E:El α}
theorem mw {xs:List α}(h:z8 E w A n c xs)(hk:zh w g t cs)(hs:∀u ∈ cs.toList,∀b,u≠.bool b):0<n->∀ad,A=some ad->ad.block≠g:=λhn a e0 hg=>by
 have hl:=h.len;have h0:0<xs.length:=zb;obtain⟨ad,b,B,m,d,F,u,v,e,h1,h2,h3,h4,h5⟩:=h.num 0 _ (qY h0);obtain rfl:a=ad:=by rw [e0] at e;injection e
 have hb:(a.add (0*3)).block=g:=by rw [yk];exact hg
 generalize a.add (0*3)=q at hb h2;obtain⟨bk,off,pr⟩:=q;simp only at hb;subst hb;unfold zh at hk;cases pr with
 |none=>
   rw [show w.cell? ⟨bk,off,none⟩=cs[off]? from cell_of_row w bk off _ t (0,0) hk,<-QS] at h2;exact hs _ (QJ h2) b rfl
 |some q=>simp [World.cell?,hk] at h2
theorem UT {xs:List α}(h:z8 E w A n c xs)(hk:zh w g t cs)(hs:∀u ∈ cs.toList,∀b,u≠.bool b)(ho:zP g w w')
  (hE:∀{x:α} {b:Bool} {A:ze} {n c:Nat} {F:ze} {k f:Nat},E w x b A n c F k f->E w' x b A n c F k f):z8 E w' A n c xs:=by
 have a:=mw h hk hs;refine⟨h.len,h.fits,h.most,λi x hi=>?_⟩;have hl:=h.len;have hlt:=(List.getElem?_eq_some_iff.1 hi).1;obtain⟨ad,b,B,m,d,F,u,v,e,h1,h2,h3,h4,h5⟩:=h.num i x hi;have hc:∀j,w'.cell? (ad.add j)=w.cell? (ad.add j):=λj=>ho.2 _ (by rw [yk];exact h1) (by rw [yk];exact a zb ad e);exact⟨ad,b,B,m,d,F,u,v,e,qJ h1 ho.1,(hc _).trans h2,(hc _).trans h3,(hc _).trans h4,hE h5⟩
theorem Qd (hs:∀u ∈ cs.toList,xp u):∀u ∈ cs.toList,∀b,u≠.bool b:=λu hu b e=>by
 obtain⟨A,n,c,e2⟩:=hs u hu;rw [e2] at e;cases e
theorem kJ (hs:∀u ∈ cs.toList,xp u):zV cs:=λq hq k z e9=>by
 obtain⟨A9,n9,c9,e8⟩:=hs q hq;rw [e8] at e9;cases e9
theorem Zq (hE:tG E){w w':World}{A:ze}{n c g:Nat}{xs:List α}{t:TypeId}{cs:Array Value}(h:z8 E w A n c xs)(hk:zh w g t cs)(hs:∀u ∈ cs.toList,xp u)(ho:zP g w w'):z8 E w' A n c xs:=
 UT h hk (Qd hs) ho (λh5=>hE.offg h5 hk (kJ hs) ho)
end
abbrev RP (α:Type):=World->ze->Nat->Nat->List α->Prop
structure uZ {α:Type}(R:RP α):Prop where
 len:∀{w:World} {A:ze} {n c:Nat} {xs:List α},R w A n c xs->xs.length=n
 below:∀{w w':World} {A:ze} {n c:Nat} {xs:List α},R w A n c xs->Below w.heap.size w w'->R w' A n c xs
 offS:∀{w w':World} {A:ze} {n c g:Nat} {xs:List α} {t:TypeId} {cs:Array Value},R w A n c xs->zh w g t cs->(∀u ∈ cs.toList,xp u)->zP g w w'->R w' A n c xs
 nil:∀w:World,R w none 0 0 []
theorem y7 {α:Type}{E:El α}(hE:tG E):uZ (z8 E):=⟨λh=>h.len,λh hb=>h.below hE hb,λh hk hs ho=>Zq hE h hk hs ho,λw=>z8.nil w⟩
theorem uZ.grown {α:Type}{R:RP α}(hR:uZ R){w w':World}{v:Value}{A:ze}{n c:Nat}{xs:List α}(h:R w A n c xs)(hg:w.grownBy w' v.ownBlock)(hn:wm w v):R w' A n c xs:=by
 cases hv:v.ownBlock with
 |none=>rw [hv] at hg;exact hR.below h (su hg)
 |some g=>
   rw [hv] at hg;obtain⟨t,cs,hk,hc⟩:=hn.blk hv;exact hR.offS h hk hc (zP.of_grown hg)
section
variable {α:Type}{R:RP α}
structure yx (R:RP α)(w:World)(A:ze)(n:Nat)(Ls:List (List α)):Prop where
 len:Ls.length=n
 num:∀i L,Ls[i]?=some L->∃(ad:Addr) (B:ze) (d:Nat),A=some ad/\ad.block<w.heap.size/\w.cell? (ad.add i)=some (.slice B L.length d)/\R w B L.length d L
theorem yx.below (hR:uZ R){w w':World}{A:ze}{n:Nat}{Ls:List (List α)}(h:yx R w A n Ls)(hb:Below w.heap.size w w'):yx R w' A n Ls:=
 ⟨h.len,λi L hi=>by
  obtain⟨ad,B,d,e,h1,h2,h3⟩:=h.num i L hi;exact⟨ad,B,d,e,qJ h1 hb.size,zv hb h2,hR.below h3 hb⟩⟩
theorem yx.nil (w:World)(A:ze):yx R w A 0 []:=⟨rfl,λi L hi=>by simp at hi⟩
theorem yx.get (hR:uZ R){w wr:World}{A:ze}{n m:Nat}{Ls:List (List α)}(h:yx R w A n Ls)(hb:Below w.heap.size w wr){i:Nat}(hi:i<n)(hm:(Ls.getD i []).length=m):∃(ad:Addr) (B:ze) (d:Nat),A=some ad/\ad.block<w.heap.size/\wr.cell? (ad.add i)=some (.slice B m d)/\R wr B m d (Ls.getD i []):=by
 have hl:=h.len;obtain⟨ad,B,d,e,h1,h2,h3⟩:=h.num i _ (wy (d:=[]) zb);rw [hm] at h2 h3;exact⟨ad,B,d,e,h1,zv hb h2,hR.below h3 hb⟩
theorem yx.off {Ls:List (List α)}(h:yx R w A n Ls)(hf:∀ad,A=some ad->ad.block≠g)(ho:zP g w w')(a:∀{B:ze} {m d:Nat} {L:List α},R w B m d L->R w' B m d L):yx R w' A n Ls:=
 ⟨h.len,λi L hi=>by
  obtain⟨ad,B,d,e,h1,h2,h3⟩:=h.num i L hi;exact⟨ad,B,d,e,qJ h1 ho.1,(ho.2 _ (by rw [yk];exact h1) (by rw [yk];exact hf ad e)).trans h2,a h3⟩⟩
structure xz (R:RP α)(w:World)(t:TypeId)(g n:Nat)(Ls:List (List α)):Prop where
 len:Ls.length=n
 blk:∃cs:Array Value,zh w g t cs/\(∀u ∈ cs.toList,xp u)/\cs.size=n
 num:∀i L,Ls[i]?=some L->∃(B:ze) (d:Nat),w.cell? ⟨g,i,none⟩=some (.slice B L.length d)/\R w B L.length d L
theorem xz.lt {t:TypeId}{Ls:List (List α)}(h:xz R w t g n Ls):g<w.heap.size:=by
 obtain⟨cs,hk,_⟩:=h.blk;exact hk.lt
theorem xz.below (hR:uZ R){w w':World}{t:TypeId}{g n:Nat}{Ls:List (List α)}(h:xz R w t g n Ls)(hb:Below w.heap.size w w'):xz R w' t g n Ls:=by
 refine⟨h.len,?_,λi x hi=>?_⟩
 ·obtain⟨cs,hk,h1,h2⟩:=h.blk;exact⟨cs,zg hb hk,h1,h2⟩
 ·obtain⟨B,d,h1,h2⟩:=h.num i x hi;exact⟨B,d,zv hb h1,hR.below h2 hb⟩
theorem xz.rows {Ls:List (List α)}(h:xz R w t g n Ls):yx R w (some ⟨g,0,none⟩) n Ls:=
 ⟨h.len,λi x hi=>by
  obtain⟨B,d,h1,h2⟩:=h.num i x hi;exact⟨_,B,d,rfl,h.lt,by rw [xk];exact h1,h2⟩⟩
theorem xz.ready {Ls:List (List α)}(h:xz R w t g n Ls){i:Nat}(hi:i<n):∃a:Value,w.cell? ⟨g,i,none⟩=some a/\w.frozen? ⟨g,i,none⟩=false:=by
 obtain⟨cs,hk,h1,h2⟩:=h.blk;have e0:i<cs.size:=zb;exact⟨_,(hk.cell _).trans (QY e0),hk.frozen _⟩
theorem xz.set_ (hR:uZ R){w:World}{t:TypeId}{g n m:Nat}{Ls:List (List α)}(h:xz R w t g n Ls){i:Nat}(hi:i<n){L:List α}{B:ze}{d:Nat}(hx:R w B m d L)(hm:L.length=m):
  xz R (w.setCell ⟨g,i,none⟩ (.slice B m d)) t g n (Ls.set i L):=by
 subst hm;obtain⟨cs,hk,h1,h2⟩:=h.blk;have ho:zP g w (w.setCell ⟨g,i,none⟩ (.slice B L.length d)):=zP.of_far ((yb.refl g w).set_ i _);have a:=hk.set_ i (.slice B L.length d);refine⟨by rw [QX];exact h.len,⟨_,a,?_,by simp;exact h2⟩,λj y hj=>?_⟩
 ·intro u hu;rw [QD] at hu;rcases QW hu with hu|rfl
  ·exact h1 u hu
  ·exact⟨_,_,_,rfl⟩
 ·by_cases hij:i=j
  ·subst hij;have hl:=h.len;rw [XY zb] at hj;injection hj with hj;subst hj;refine⟨B,d,?_,hR.offS hx hk h1 ho⟩;rw [a.cell,qM zb]
  ·rw [XZ hij] at hj;obtain⟨B',d',c1,c2⟩:=h.num j y hj;refine⟨B',d',?_,hR.offS c2 hk h1 ho⟩;rw [a.cell,qK zb,<-hk.cell];exact c1
def uo:Array Value:=#[.slice none 0 0]
theorem Ui (n:Nat):∀u ∈(madeCells uo n).toList,xp u:=by
 intro v hv;rw [yN,Array.mem_iff_getElem?] at hv;obtain⟨j,hj⟩:=hv;have a:j<n:=by
  have:=(Array.getElem?_eq_some_iff.1 hj).1;rwa [size_madeCells] at this
 rw [mO _ _ _ a,show uo.size=1 from rfl,XX] at hj;simp [uo] at hj;exact⟨_,_,_,hj.symm⟩
theorem xz.made (hR:uZ R)(w:World)(t:TypeId)(n:Nat):xz R (w.alloc (.cells (madeCells uo n) t)) t w.heap.size n (List.replicate n []):=by
 have hk:=zh.new w t (madeCells uo n);refine⟨zA,⟨_,hk,Ui _,size_madeCells _ _⟩,λi x hi=>?_⟩;have a:i<n:=by
  have:=(List.getElem?_eq_some_iff.1 hi).1;simpa using this
 obtain rfl:[]=x:=by
  rw [List.getElem?_replicate,if_pos a] at hi;injection hi
 refine⟨none,0,?_,hR.nil _⟩;rw [hk.cell,mO _ _ _ a,show uo.size=1 from rfl,XX];rfl
structure wl (R:RP α)(w:World)(base:Nat)(t:TypeId)(v:Value)(Ls:List (List α))(vs:List Value):Prop where
 own:w.ownsRow base t 1 v Ls.length vs
 sl:wm w v
 num:∀(i:Nat) (L:List α),Ls[i]?=some L->∃(B:ze) (d:Nat),vs[i]?=some (Value.slice B L.length d)/\R w B L.length d L
theorem wl.nil (w:World)(a:Nat)(t:TypeId):wl R w a t (.slice none 0 0) [] []:=⟨XO _ _ _ _,wm.nil _ _,λi L hi=>by simp at hi⟩
theorem wl.len {Ls:List (List α)}(h:wl R w a t v Ls vs):vs.length=Ls.length:=by have:=h.own.1;omega
theorem wl.shape {n:Nat}{Ls:List (List α)}(h:wl R w a t v Ls vs)(hn:Ls.length=n):∃A c,v=.slice A n c/\n<=c/\c<=9223372036854775807/\yx R w A n Ls/\∀ad,A=some ad->a<=ad.block:=by
 subst hn;rcases h.own.2 with⟨rfl,h0⟩|⟨g,cap,cur,rfl,hbg,hg,hnc,hcm,hcs,htake⟩
 ·have hx:Ls=[]:=QU h0;subst hx;exact⟨none,0,rfl,qX _,zf,yx.nil w none,λad e=>by cases e⟩
 ·have j:=h.own.cells (g:=g) rfl;refine⟨some ⟨g,0,none⟩,cap,rfl,hnc,by unfold maxLen at hcm;omega,⟨rfl,λi L hi=>?_⟩,λad e=>by injection e with e;subst e;exact hbg⟩;obtain⟨B,d,hv,hw⟩:=h.num i L hi;exact⟨_,B,d,rfl,(Array.getElem?_eq_some_iff.1 hg).1,j _ _ hv,hw⟩
theorem wl.below (hR:uZ R){w w':World}{a:Nat}{t:TypeId}{v:Value}{Ls:List (List α)}{vs:List Value}(h:wl R w a t v Ls vs)(hb:Below w.heap.size w w'):wl R w' a t v Ls vs:=by
 refine⟨⟨h.own.1,?_⟩,h.sl.below hb,λi L hi=>?_⟩
 ·rcases h.own.2 with h1|⟨g,cap,cur,e1,e2,e3,e4⟩
  ·exact .inl h1
  ·exact .inr ⟨g,cap,cur,e1,e2,(hb.block g (zh.lt (t:=t) (cs:=cur) e3)).trans e3,e4⟩
 ·obtain⟨B,d,hv,hw⟩:=h.num i L hi;exact⟨B,d,hv,hR.below hw hb⟩
theorem wl.grow (hR:uZ R){w w':World}{a n m:Nat}{t:TypeId}{v v':Value}{Ls:List (List α)}{vs:List Value}{L:List α}{B:ze}{d:Nat}(h:wl R w a t v Ls vs)(hx:R w B m d L)(hm:L.length=m)
  (ho:w'.ownsRow a t 1 v' n (vs++[.slice B m d])) (hn:n=Ls.length+1) (hg:w.grownBy w' v.ownBlock) (hs:wm w' v'):wl R w' a t v' (Ls++[L]) (vs++[.slice B m d]):=by
 subst hm;have hl:=h.len;refine⟨by rw [qB,YA,<-hn];exact ho,hs,λi M hi=>?_⟩;by_cases hlt:i<Ls.length
 ·rw [QG hlt] at hi;obtain⟨C,e,hv,hw⟩:=h.num i M hi;exact⟨C,e,by rw [QG zb];exact hv,hR.grown hw hg h.sl⟩
 ·rw [qT zb] at hi;have c:i=Ls.length:=by
   have:=(List.getElem?_eq_some_iff.1 hi).1;simp at this;omega
  subst c;obtain rfl:L=M:=by
   rw [XH] at hi;injection hi
  exact⟨B,d,by rw [qT zb,hl,XH];rfl,hR.grown hx hg h.sl⟩
theorem Vb (hR:uZ R){w:World}{g:Nat}{t:TypeId}{A B:ze}{n m c d:Nat}{xs ys:List α}(h:zh w g t #[.slice A n c,.slice B m d])(h1:R w A n c xs)(h2:R w B m d ys):yx R w (some ⟨g,0,none⟩) 2 [xs,ys]:=by
 refine⟨rfl,λi L hi=>?_⟩;have a:=hR.len h1;have j:=hR.len h2
 match i,hi with
 |0,hi=>
   obtain rfl:xs=L:=by simpa using hi
   rw [a];exact⟨_,A,c,rfl,h.lt,by rw [xk];exact h.cell 0,h1⟩
 |1,hi=>
   obtain rfl:ys=L:=by simpa using hi
   rw [j];exact⟨_,B,d,rfl,h.lt,by rw [xk];exact h.cell 1,h2⟩
 |i+2,hi=>simp at hi
end
theorem aS (n:Nat)(hn:n<=1099511627776):∃Z:Array Value,∀W:World,(Instr.makeSlice 26 (.int .i64 (n:Int)) (.int .i64 (n:Int))).run prog W=.ok (.slice (some ⟨W.heap.size,0,none⟩) n n) (W.alloc (.cells Z 41))/\xz (z8 zo) (W.alloc (.cells Z 41)) 41 W.heap.size n (List.replicate n []):=by
 obtain⟨i0,a,c,d,g⟩:=info_parts io;refine⟨madeCells uo n,λW=>⟨?_,xz.made (y7 zZ) W _ n⟩⟩;have h:=sx (P:=prog) _ _ i0 _ underlying26 a c .i64 .i64 n n (qX _) (by rw [g];omega) zb W;rw [d,xV] at h;exact h
theorem bO {P:Program}(w:World){o:Oper}{a:Act}{K:Act->World->Prop}{Q:Exit->Act->World->Prop}(s x:Operand)(t:TypeId)
  (ho:o.op=.call {callee:=.builtin .append,args:=#[s,x],argTypes:=#[t,t]})
  (g:Nat) (e:TypeId) (i:TypeInfo) (z:Value) (size bytes:Nat) (ht:P.underlying t=some (.slice e)) (hi:P.info? e=some i) (hz:i.zero=some z)
  (B:i.size=size) (E:i.bytes=bytes) (H:z.cells.size=size) (hsz:0<size)
  (v:Value) (n:Nat) (xs:List Value) (hs:a.eval s=v) (C:w.ownsRow g e size v n xs)
  (ad:Addr) (m c:Nat) (d:List Value) (hx:a.eval x=.slice (some ad) m c) (hl:d.length=m*size) (A:∀j u,d[j]?=some u->w.cell? (ad.add j)=some u) (h1:∀u ∈ d,u.oneCell'=true)
  (D:n+m<=maxLen) (k:(n+m)*bytes<=140737488355328) (y:g<=w.heap.size)
  (hv:wm w v) (G:∀u ∈ z.cells.toList,xp u) (F:∀u ∈ d,xp u)
  (h:∀v' w',w'.ownsRow g e size v' (n+m) (xs++d)->w.grownBy w' v.ownBlock->(v'.ownBlock=v.ownBlock\/v'.ownBlock=some w.heap.size)->wm w' v'->K (a.put o.dst v') w'):Oper.wp P o a w K Q:=by
 obtain⟨v',w',hr,h2,h3,h4,h5⟩:=Yl (P:=P) w g t o.type e i z size bytes ht hi hz B E H hsz v n xs C ad m c d hl A h1 D k y hv G F;unfold Oper.wp execOp;simp only [ho,resolve,invoke,builtin,Sem.run_bind,Sem.run_pure,Result.andThen_ok,YG,yK,List.map_nil,hs,hx,hr];exact h v' w' h2 h3 h4 h5
