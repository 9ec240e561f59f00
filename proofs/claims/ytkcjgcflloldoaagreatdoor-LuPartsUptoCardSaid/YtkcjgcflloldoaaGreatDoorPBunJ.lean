/- What this claim leans on. -/
import Derived.Test.YtkcjgcflloldoaaGreatDoorPBunI
set_option linter.unusedVariables false
set_option linter.unusedSimpArgs false
namespace Go.Proofs.YtkcjgcflloldoaaGreatDoor
open Go Go.RowKit Go.Proofs.Tryz
set_option maxHeartbeats 16000000
set_option maxRecDepth 100000
variable {b:Bool}{z:Int}{K c f k n x y:Nat}{w:World}{A E:ze}
theorem Vk (x y:Nat)(A D:ze)(n m c d:Nat)(w:World)(hA:zo w x A n c)(hD:zo w y D m d)(hn:n<=274877906944)(hm:m<=274877906944):
  Calls prog 144 #[.agg #[.slice A n c],.agg #[.slice D m d]] w (iR w (x / y) (decide (y≠0))):=by
 by_cases hy:y=0
 ·have e:x / y=0:=by rw [hy,Nat.div_zero]
  have e2:decide (y≠0)=false:=by simp [hy]
  rw [e,e2];exact Z8 0 0 false A D n m c d w (λw' hb=>WW x y A D n m c d w' (hA.below hb) (hD.below hb) hy)
 ·have e2:decide (y≠0)=true:=by simp [hy]
  rw [e2];exact Z8 (x / y) (x%y) true A D n m c d w (λw' hb=>aH x y A D n m c d w' (hA.below hb) (hD.below hb) za za hy)
theorem Pm (x y:Nat)(A D:ze)(n m c d:Nat)(w:World)(hA:zo w x A n c)(hD:zo w y D m d)(hn:n<=1073741824)(hm:m<=1073741824)(hT:zu w):
  Calls prog 112 #[.agg #[.slice A n c],.agg #[.slice D m d]] w (We w (x / Nat.gcd x y) (y / Nat.gcd x y)):=by
 have HO:=zj w (λw' hb=>qv x y A D n m c d w' (hA.below hb) (hD.below hb) hn hm (hT.on hb));obtain⟨g,hg⟩:∃g,Nat.gcd x y=g:=⟨_,rfl⟩;have lg:(dg 18446744073709551616 g).length<=2147483648:=by
  rw [<-hg];rcases xQ x with e|e
  ·rw [e,XI,hD.len];omega
  ·exact qD (sf zf (Nat.gcd_le_left y e)) (by rw [hA.len];omega)
 rw [hg] at HO⊢;have t:=zj w (λw' hb A1 n1 c1 (h1:zo w' g A1 n1 c1)=>Vk x g A A1 n n1 c c1 w' (hA.below hb) h1 za (by rw [<-h1.len];omega));have u:=zj w (λw' hb A1 n1 c1 (h1:zo w' g A1 n1 c1)=>Vk y g D A1 m n1 d c1 w' (hD.below hb) h1 za (by rw [<-h1.len];omega));obtain⟨X,hX⟩:∃g',x / g=g':=⟨_,rfl⟩;obtain⟨Y,hY⟩:∃g',y / g=g':=⟨_,rfl⟩;obtain⟨bb,a⟩:∃g':Bool,decide (g≠0)=g':=⟨_,rfl⟩;rw [hX,a] at t;rw [hY,a] at u;rw [hX,hY];clear hA hD hT hg lg hX hY a;go_enter func112,ntmps112;go_wp2_with fail;obtain⟨b1,b2,b3,b4,b5⟩:=yF w 50 50 50 #[.slice A n c] #[.slice D m d] #[.slice none 0 0];obtain⟨W3,s⟩:∃W,((w.alloc (.cells #[.slice A n c] 50)).alloc (.cells #[.slice D m d] 50)).alloc (.cells #[.slice none 0 0] 50)=W:=⟨_,rfl⟩;rw [s] at b1 b2 b3 b4 b5⊢;have z:W3.heap.size=w.heap.size+1+1+1:=by rw [<-s];simp
 have kA:=b2.one.alloc (.cells #[.slice none 0 0] 50);have kD:=b3.one.alloc (.cells #[.slice none 0 0] 50);have kx:=b4.one.alloc (.cells #[.slice none 0 0] 50);have ky:=xp.new W3 50 (.slice none 0 0);rw [z] at ky;have hB:=b1.alloc b1.size (.cells #[.slice none 0 0] 50);clear b1 b2 b3 b4 b5 s z;generalize W3.alloc (.cells #[.slice none 0 0] 50)=W4 at*;obtain⟨p,hp⟩:∃p,w.heap.size=p:=⟨_,rfl⟩;have hpw:w.heap.size<=p:=za;refine(HO.o _ hB).mono ?_;rw [hp] at kA kD kx ky⊢;clear hp;rintro e w1 ⟨A1,n1,c1,rfl,i,hb⟩;obtain⟨d1,d2,d3⟩:=zw w1 50 #[.slice A1 n1 c1];have a:=zc hb d1;have kA:=kA.keep a;have kD:=kD.keep a;have kx:=kx.keep a;have ky:=ky.keep a;have hB:=zc hB a;have i:=i.below d1;have kg:=d2.one;clear d1 d2 d3 hb a;have e1:=kA.cell;have e2:=kg.cell;go_wp2_with fail;generalize F:w1.alloc (.cells #[.slice A1 n1 c1] 50)=W5 at*;generalize w1.heap.size=z1 at*;clear F;refine(t.o _ hB A1 n1 c1 i).mono ?_;clear e1 e2;rintro e w2 ⟨A2,n2,c2,rfl,j,hb⟩;have hz2:=(ky.keep hb).lt;obtain⟨d1,d2,d3⟩:=zw w2 50 #[.slice A2 n2 c2];have a:=zc hb d1;have kD:=kD.keep a;have kx:=kx.keep a;have ky:=ky.keep a;have kg:=kg.keep a;have hB:=zc hB a;have i:=i.below a;have j:=j.below d1;have k7:=d2.one;clear d1 d2 d3 hb a kA;have e1:=kD.cell;have e2:=kg.cell;go_wp2_with fail;generalize G:w2.alloc (.cells #[.slice A2 n2 c2] 50)=W6 at*;generalize w2.heap.size=z2 at*;clear G;refine(u.o _ hB A1 n1 c1 i).mono ?_;clear e1 e2;rintro e w3 ⟨A3,n3,c3,rfl,o,hb⟩;have hz3:=(ky.keep hb).lt;obtain⟨d1,d2,d3⟩:=zw w3 50 #[.slice A3 n3 c3];have a:=zc hb d1;have kx:=kx.keep a;have ky:=ky.keep a;have k7:=k7.keep a;have hB:=zc hB a;have j:=j.below a;have o:=o.below d1;have k9:=d2.one;clear d1 d2 d3 hb a kD kg i;go_wp2_with fail;generalize H:w3.alloc (.cells #[.slice A3 n3 c3] 50)=W7 at*;generalize w3.heap.size=z3 at*;clear H;have q7:W7.cell? ⟨z2,0,none⟩=some (.slice A2 n2 c2):=k7.cell;have q9:W7.cell? ⟨z3,0,none⟩=some (.slice A3 n3 c3):=k9.cell;have qx:W7.cell? ⟨p+1+1,0,none⟩=some (.slice none 0 0):=kx.cell;have qy:W7.cell? ⟨p+1+1+1,0,none⟩=some (.slice none 0 0):=ky.cell;have fx:W7.frozen? ⟨p+1+1,0,none⟩=false:=kx.frozen;have fy:W7.frozen? ⟨p+1+1+1,0,none⟩=false:=ky.frozen;have q9':=zW (q:=⟨p+1+1,0,none⟩) (.slice A2 n2 c2) (by show z3≠p+1+1;omega) q9;have E:=kx.set_ (.slice A2 n2 c2);have k:=ky.far (p:=⟨p+1+1,0,none⟩) (by show p+1+1+1≠p+1+1;omega) (.slice A2 n2 c2);have qy':=k.cell;have fy':=k.frozen;have B:=wB j kx (.slice A2 n2 c2);have C:=wB o kx (.slice A2 n2 c2);have rx:=(E.far (p:=⟨p+1+1+1,0,none⟩) (by show p+1+1≠p+1+1+1;omega) (.slice A3 n3 c3)).cell;have ry:=(k.set_ (.slice A3 n3 c3)).cell;have HE : zd (We w X Y (.returned (.tuple #[.agg #[.slice A2 n2 c2],.agg #[.slice A3 n3 c3]])) ((W7.setCell ⟨p + 1 + 1,0,none⟩ (.slice A2 n2 c2)).setCell ⟨p + 1 + 1 + 1,0,none⟩ (.slice A3 n3 c3)).drew) :=
  ⟨_,_,_,_,_,_,rfl,wB B k _,wB C k _,(hB.setCell (p:=⟨p+1+1,0,none⟩) (by show w.heap.size<=p+1+1;omega) _).setCell (p:=⟨p+1+1+1,0,none⟩) (by show w.heap.size<=p+1+1+1;omega) _|>.drew⟩
 clear k7 k9 kx ky hB j o E k B C;go_region
 all_goals
  go_wp2
  refine bodyPost_ret (v:=.tuple #[.agg #[.slice A2 n2 c2],.agg #[.slice A3 n3 c3]]) (by simp [results,results112,go_sem,rx,ry]) rfl ?_
  exact HE.o
theorem Sz.of_words (h:zo w x A n c)(hn:n<=K):Sz K x:=by
 have h1:=yv (b:=18446744073709551616) zf x;rw [h.len] at h1;exact qJ h1 (qG zf hn)
theorem dG:ZG where
 of x y A D n m c d w hA hD hn hm hT:=qv x y A D n m c d w hA hD hn hm hT
 reduce x y A D n m c d w hA hD hn hm hT:=Pm x y A D n m c d w hA hD hn hm hT
theorem zo.to8 (e:x=y)(h:zo w x A n c):zo w y A n c:=e▸h
theorem z6.to8 {x y:Int}(e:x=y)(h:z6 w x b A n c):z6 w y b A n c:=e▸h
theorem UQ (x:Nat)(A:ze)(n c:Nat)(w:World)(h:zo w x A n c)(hn:n<=1099511627776):
  Calls prog 103 #[.agg #[.slice A n c]] w λe w'=>∃(B:ze) (m d:Nat),e=.returned (.slice B m d)/\zo w' x B m d/\Below w.heap.size w w':=by
 refine(ji x A n c w h hn).mono ?_;rintro e w' ⟨B,d,rfl,h1,h2,h3,h4⟩;exact⟨B,_,d,rfl,⟨h1,h2,h3.1⟩,h4⟩
theorem il (x:Nat)(A:ze)(n c:Nat)(w:World)(h:zo w x A n c)(hn:n<=1099511627776):
  Calls prog 106 #[.slice A n c] w λe w'=>∃(B:ze) (m d:Nat),e=.returned (.agg #[.slice B m d])/\zo w' x B m d/\Below w.heap.size w w':=by
 have k:=tK A n c _ w h.1 (uA zf x) h.2.1 h.2.2 hn;rw [vw zf] at k;refine k.mono ?_;rintro e w' ⟨B,m,d,rfl,h1,h2,_⟩;exact⟨B,m,d,rfl,h1,h2⟩
theorem Sw {P:Program}{f:FuncId}{args:Array Value}{v:Int}(e:z=v)(h:Calls P f args w λe w'=>e=.returned (.tuple #[.int .u64 z,.bool true])/\Below w.heap.size w w'):Calls P f args w λe w'=>e=.returned (.tuple #[.int .u64 v,.bool true])/\Below w.heap.size w w':=by
 subst e;exact h
theorem Tt (x:Nat)(A:ze)(n c:Nat)(w:World)(hA:zo w x A n c)(hn:n<=1099511627776):Calls prog 109 #[.agg #[.slice A n c]] w (wR w ((bitLen x:Nat):Int)):=Xf x A n c w hA hn
theorem Zd {K':Nat}(h:Sz K z.natAbs)(h':Sz K' k):Sz (K+K') (z*((k:Nat):Int)).natAbs:=by
 rw [xN,XH];exact h.mul h'
theorem xF {q:Nat}(h:Sz K q)(e:q=(if x=0 then 1 else x)/\x≠1):Sz K x:=h.of_le (by rw [e.1];split<;>omega)
theorem xo {r:Rat}(h:zp w r b A n c E k f)(q:zV n k)(hK:67108864=K):zm K r:=by
 obtain⟨x,e,hx⟩:=h.2;have h1:Sz K r.num.natAbs:=Sz.of_words h.1.2 (by have:=q.1;omega);have h2:Sz K x:=Sz.of_words hx (by have:=q.2;omega);refine⟨h1,?_⟩;rw [e.1]
 split
 ·exact iH za
 ·exact h2
theorem aL (w:World):zo w 0 none 0 0:=by
 refine⟨⟨by rw [show dg 18446744073709551616 0=[] from by rw [dg];rfl];rfl,λh=>absurd h zf⟩,qX _,zf⟩
theorem Ya (w:World):zp w (0:Rat) false none 0 0 none 0 0:=⟨⟨rfl,aL w⟩,⟨0,⟨rfl,zf⟩,aL w⟩⟩
theorem Zf (h:z6 w z b A n c):zp w (z:Rat) b A n c none 0 0:=⟨by rw [yH];exact h,⟨0,⟨by rw [YU];rfl,zf⟩,aL w⟩⟩
theorem Ni {r:Rat}(hn:r.num=z)(hd:r.den=1)(h:z6 w z b A n c)(q:zo w 0 E k f):zp w r b A n c E k f:=
 ⟨by rw [hn];exact h,⟨0,⟨by rw [hd];rfl,zf⟩,q⟩⟩
theorem Ui {r:Rat}(hn:r.num=z)(hd:r.den=y)(hy:y≠1)(h:z6 w z b A n c)(q:zo w y E k f):zp w r b A n c E k f:=
 ⟨by rw [hn];exact h,⟨y,⟨by rw [if_neg (λh0=>r.den_nz (by rw [hd,h0]))];exact hd,hy⟩,q⟩⟩
theorem Yl {q:Nat}(e:q=(if x=0 then 1 else x)/\x≠1)(h:q=1):x=0:=by
 refine Decidable.byContradiction λh0=>?_;rw [if_neg h0] at e;omega
theorem aI {q:Nat}(e:q=(if x=0 then 1 else x)/\x≠1)(h:q≠1):x≠0/\x=q:=by
 have h0:x≠0:=λh0=>h (by rw [e.1,if_pos h0]);refine⟨h0,?_⟩;have:=e.1;rw [if_neg h0] at this;exact this.symm
theorem No (z:Int):zY (decide (z<0)) z.natAbs=z:=by
 unfold zY;by_cases h:z<0
 ·rw [decide_eq_true h,if_pos rfl];omega
 ·rw [decide_eq_false h,if_neg zf];omega
theorem NH (h:zo w x A n c)(hn:n<=1):x<18446744073709551616:=Xh h.len hn
theorem mF (h:zo w x A n c)(hx:x=1):n<=1:=by
 have h1:Sz 1 x:=by rw [hx];exact iH zf
 exact h1.words h
theorem Oh (p d:Int)(hd:d≠0):(Rat.divInt p d).num=zY (decide (p<0) !=decide (d<0)) (p.natAbs / Nat.gcd p.natAbs d.natAbs)/\(Rat.divInt p d).den=d.natAbs / Nat.gcd p.natAbs d.natAbs:=by
 refine⟨?_,TU p d hd⟩;have h1:=TV p d hd;have h2:=U2 p d hd;rw [<-h1];generalize (Rat.divInt p d).num=z at*;unfold zY;by_cases hp:p<0
 ·by_cases hq:d<0
  ·rw [decide_eq_true hp,decide_eq_true hq];simp;omega
  ·rw [decide_eq_true hp,decide_eq_false hq];simp;omega
 ·by_cases hq:d<0
  ·rw [decide_eq_false hp,decide_eq_true hq];simp;by_cases h0:p=0
   ·subst h0;simp at h1;omega
   ·omega
  ·rw [decide_eq_false hp,decide_eq_false hq];simp;omega
theorem Yk (z:Int)(j:Bool)(i:ze)(d k:Nat)(w:World)(hT:zu w)(o:z6 w z j i d k)(G:d<=268435456):
  Calls prog 101 #[.agg #[.bool j,.slice i d k]] w (ww w z):=by
 have n:=zb (vl (T:=zu));have HT:=zj w (λw' hb=>hT.on hb);have HTB:=HT;obtain⟨K,F⟩:∃K,268435456=K:=⟨_,rfl⟩;have hKK:K<=268435456:=za;have hK0:0<K:=za;have HV:=zb (No z);obtain⟨sb,t⟩:∃s,decide (z<0)=s:=⟨_,rfl⟩;rw [t] at HV;have E:=zb t;clear t;have g:=zj w (λw' b=>o.below b);have m:zd (Sz K z.natAbs):=Sz.of_words o.words za;clear o G;clear hT F;go_enter func101,ntmps101;have hB:=qZ w.heap.size w;obtain⟨y,A,B,bz⟩:=z8 w 52 52 #[.bool j,.slice i d k] #[.bool false,.slice none 0 0];have hB:=zc hB y;obtain⟨g1,e1⟩:=A.c2;have k2:=B;clear y A B bz;go_wp2_with fail;generalize (w.alloc (.cells #[.bool j,.slice i d k] 52)).alloc (.cells #[.bool false,.slice none 0 0] 52)=W1 at*;have C0:=zj W1 (λw' h=>wg (E.o) (n.o.belowI (z) j i d k w' (HT.o _ (zc hB h)) (g.o _ (zc hB h)) (y9 m (g.o _ hB))));have u:zd (Sz (K) (z.natAbs)):=m.o;have C1:=zj W1 (λw' h=>n.o.abs (z) j i d k w' (HT.o _ (zc hB h)) (g.o _ (zc hB h)) (y9 m (g.o _ hB)));have HZ4:zd (Sz (K) (zY sb z.natAbs).natAbs):=(by rw [iM];exact u.o);have C2:=zj W1 (λw' h B3 m3 d3 (c:zo w' (z.natAbs) B3 m3 d3)=>n.o.new sb (z.natAbs) B3 m3 d3 w' (HT.o _ (zc hB h)) c (yz u c));have a:=(qZ W1.heap.size W1).drew;refine rg (zk g1 (zk e1 zO)) (λhHeld=>?_);refine tk 0 ?_;refine tk 2 ?_;refine rc 1 (λK hK=>?_);go_simp;go_at_call 61;(with_reducible refine(C0.o _ a).mono ?_);rintro e wa2 ⟨rfl,hb⟩;have a:=zc a hb;refine hK.out _ _ (Cs.below hHeld hb) (λhHeld=>?_);clear hK K hb
 try simp only [zI]
 refine rc 3 (λK hK=>?_);go_simp;go_at_call 62;(with_reducible refine(C1.o _ a).mono ?_);rintro e wa3 ⟨B3,m3,d3,rfl,c,hb⟩;have a:=zc a hb;refine hK.out _ _ (Cs.below hHeld hb) (λhHeld=>?_);clear hK K hb
 try simp only [zI]
 refine rc 4 (λK hK=>?_);go_simp;go_at_call 118;(with_reducible refine(C2.o _ a _ _ _ c).mono ?_);rintro e wa4 ⟨b4,B4,m4,d4,rfl,C,hb⟩;have a:=zc a hb;have c:=c.below hb;refine hK.out _ _ (Cs.below hHeld hb) (λhHeld=>?_);clear hK K hb
 try simp only [zI]
 obtain⟨sc0,sf0,sc1,sf1⟩:=vh (zg a k2) (.bool b4);refine rc 5 (λK hK=>?_);go_simp;refine hK.out _ _ (ZJ (.bool b4) (.slice B4 m4 d4) hHeld) (λhHeld=>?_);clear hK K
 try simp only [zI]
 refine z4 ?_;have hB:=zc hB a;obtain⟨g1,e1⟩:=xl a g1 e1;have k2:=zg a k2;have D:=zb C;clear a hHeld c C C0 C1 C2;obtain⟨r0,r1⟩:=(vg k2 (.bool b4) (.slice B4 m4 d4)).c2;have HG:=zb (ZK (z6.to8 HV.o D.o) k2 hB za);go_wp2;refine bodyPost_ret (v:=.agg #[.bool b4,.slice B4 m4 d4]) (by simp [results,results101,go_sem,r0,r1]) rfl ?_;exact HG.o
theorem aS (z:Int)(k:Nat)(m:Bool)(i:ze)(d n:Nat)(j:ze)(g o:Nat)(w:World)(hT:zu w)(A:z6 w z m i d n)(B:zo w k j g o)(M:d<=134217728)(N:g<=134217728):
  Calls prog 148 #[.agg #[.bool m,.slice i d n],.agg #[.slice j g o]] w (ww w (z*((k:Nat):Int))):=by
 have C:=zb (vl (T:=zu));have HT:=zj w (λw' hb=>hT.on hb);have HTB:=HT;obtain⟨K,L⟩:∃K,134217728=K:=⟨_,rfl⟩;have hKK:K<=134217728:=za;have hK0:0<K:=za;have s:=zj w (λw' b=>A.below b);have u:zd (Sz K z.natAbs):=Sz.of_words A.words za;clear A M;have t:=zj w (λw' b=>B.below b);have y:zd (Sz K k):=Sz.of_words B za;clear B N;clear hT L;go_enter func148,ntmps148;have hB:=qZ w.heap.size w;obtain⟨E,F,G,H,bz⟩:=yF w 52 50 52 #[.bool m,.slice i d n] #[.slice j g o] #[.bool false,.slice none 0 0];have hB:=zc hB E;obtain⟨g1,e1⟩:=F.c2;have g2:=G.c1;have k3:=H;clear E F G H bz;go_wp2_with fail;generalize ((w.alloc (.cells #[.bool m,.slice i d n] 52)).alloc (.cells #[.slice j g o] 50)).alloc (.cells #[.bool false,.slice none 0 0] 52)=W1 at*;have D:zd (Sz (K) (((k:Nat):Int)).natAbs):=(by rw [XH];exact y.o);have C0:=zj W1 (λw' h=>pe C.o (k) j g o w' (HT.o _ (zc hB h)) (t.o _ (zc hB h)) (yz y (t.o _ hB)));have HZ5:zd (Sz (K+K) (z*(((k:Nat):Int))).natAbs):=SzI.mul u.o D.o;have C1:=zj W1 (λw' h b4 B4 m4 d4 (c:z6 w' (((k:Nat):Int)) b4 B4 m4 d4)=>C.o.mul (z) (((k:Nat):Int)) m b4 i B4 d m4 n d4 w' (HT.o _ (zc hB h)) (s.o _ (zc hB h)) c (y9 u (s.o _ hB)) (y9 D c));have a:=(qZ W1.heap.size W1).drew;refine rg (zk g1 (zk e1 (zk g2 zO))) (λhHeld=>?_);refine tk 0 ?_;refine tk 1 ?_;refine rc 2 (λK hK=>?_);go_simp;go_at_call 118;(with_reducible refine(C0.o _ a).mono ?_);rintro e wa2 ⟨b4,B4,m4,d4,rfl,c,hb⟩;have a:=zc a hb;refine hK.out _ _ (Cs.below hHeld hb) (λhHeld=>?_);clear hK K hb
 try simp only [zI]
 refine rc 3 (λK hK=>?_);go_simp;go_at_call 111;(with_reducible refine(C1.o _ a _ _ _ _ c).mono ?_);rintro e wa3 ⟨b5,B5,m5,d5,rfl,I,hb⟩;have a:=zc a hb;have c:=c.below hb;refine hK.out _ _ (Cs.below hHeld hb) (λhHeld=>?_);clear hK K hb
 try simp only [zI]
 obtain⟨sc0,sf0,sc1,sf1⟩:=vh (zg a k3) (.bool b5);refine rc 4 (λK hK=>?_);go_simp;refine hK.out _ _ (ZJ (.bool b5) (.slice B5 m5 d5) hHeld) (λhHeld=>?_);clear hK K
 try simp only [zI]
 refine z4 ?_;have hB:=zc hB a;obtain⟨g1,e1,g2⟩:=yi a g1 e1 g2;have k3:=zg a k3;have J:=zb I;clear a hHeld c I C0 C1;obtain⟨r0,r1⟩:=(vg k3 (.bool b5) (.slice B5 m5 d5)).c2;have HG:=zb (ZK (J.o) k3 hB za);go_wp2;refine bodyPost_ret (v:=.agg #[.bool b5,.slice B5 m5 d5]) (by simp [results,results148,go_sem,r0,r1]) rfl ?_;exact HG.o
theorem Ph (r:Rat)(k:Bool)(i:ze)(d m:Nat)(j:ze)(g n:Nat)(w:World)(hT:zu w)(t:zp w r k i d m j g n)(A:zV d g)(hd:r.den=1):
  Calls prog 48 #[.agg #[.bool k,.slice i d m,.slice j g n]] w (λe w'=>e=.returned (.bool true)/\Below w.heap.size w w'):=by
 have HT:=zj w (λw' hb=>hT.on hb);have HTB:=HT;obtain⟨K,z⟩:∃K,67108864=K:=⟨_,rfl⟩;have hKK:K<=67108864:=za;have hK0:0<K:=za;obtain⟨C,a,c⟩:=t.2;have u:=zb a;have o:zd (zm K r):=xo t A z;have HZaap:zd (Sz K r.num.natAbs):=o.o.num;have HZaaq:zd (Sz K C):=xF o.o.den a;have s:=zj w (λw' b=>c.below b);clear t A a c;have B:=zb (Yl u.o hd);clear hT z hd;go_enter func48,ntmps48;have hB:=qZ w.heap.size w;obtain⟨v,y,bz⟩:=zw w 54 #[.bool k,.slice i d m,.slice j g n];have hB:=zc hB v;obtain⟨g1,e1,i1⟩:=y.c3;clear v y bz;go_wp2_with fail;generalize w.alloc (.cells #[.bool k,.slice i d m,.slice j g n] 54)=W1 at*;(with_reducible refine(iP B.o (s.o _ hB)).mono ?_);rintro e wc2 ⟨rfl,hb⟩;have hB:=zc hB hb;obtain⟨g1,e1,i1⟩:=yi hb g1 e1 i1;clear hb ;go_wp2;go_ret;exact⟨by first|rfl|simp,hB⟩
theorem Pg (r:Rat)(k:Bool)(i:ze)(d m:Nat)(j:ze)(g n:Nat)(w:World)(hT:zu w)(t:zp w r k i d m j g n)(A:zV d g)(hd:r.den≠1):
  Calls prog 48 #[.agg #[.bool k,.slice i d m,.slice j g n]] w (λe w'=>e=.returned (.bool false)/\Below w.heap.size w w'):=by
 have HT:=zj w (λw' hb=>hT.on hb);have HTB:=HT;obtain⟨K,z⟩:∃K,67108864=K:=⟨_,rfl⟩;have hKK:K<=67108864:=za;have hK0:0<K:=za;obtain⟨C,a,c⟩:=t.2;have u:=zb a;have o:zd (zm K r):=xo t A z;have HZaap:zd (Sz K r.num.natAbs):=o.o.num;have HZaaq:zd (Sz K C):=xF o.o.den a;have s:=zj w (λw' b=>c.below b);clear t A a c;have B:=zb (aI u.o hd).1;clear hT z hd;go_enter func48,ntmps48;have hB:=qZ w.heap.size w;obtain⟨v,y,bz⟩:=zw w 54 #[.bool k,.slice i d m,.slice j g n];have hB:=zc hB v;obtain⟨g1,e1,i1⟩:=y.c3;clear v y bz;go_wp2_with fail;generalize w.alloc (.cells #[.bool k,.slice i d m,.slice j g n] 54)=W1 at*;(with_reducible refine(ju B.o (s.o _ hB)).mono ?_);rintro e wc2 ⟨rfl,hb⟩;have hB:=zc hB hb;obtain⟨g1,e1,i1⟩:=yi hb g1 e1 i1;clear hb ;go_wp2;go_ret;exact⟨by first|rfl|simp,hB⟩
theorem oS (r:Rat)(i:Bool)(d:ze)(a j:Nat)(g:ze)(c k:Nat)(w:World)(hT:zu w)(m:zp w r i d a j g c k)(n:zV a c):
  Calls prog 48 #[.agg #[.bool i,.slice d a j,.slice g c k]] w (λe w'=>e=.returned (.bool (decide (r.den=1)))/\Below w.heap.size w w'):=by
 by_cases hd:r.den=1
 ·rw [decide_eq_true hd];exact Ph r i d a j g c k w hT m n hd
 ·rw [decide_eq_false hd];exact Pg r i d a j g c k w hT m n hd
theorem RM (r:Rat)(s:Bool)(x:Nat)(y:Nat)(g:ze)(d j:Nat)(i:ze)(c k:Nat)(w:World)(hT:zu w)(u:zo w x g d j)(n:zo w y i c k)(S:d<=268435456)(U:c<=268435456)(hn:r.num=zY s x)(hd:r.den=y)(hy:y=1):
  Calls prog 60 #[.bool s,.agg #[.slice g d j],.agg #[.slice i c k]] w (yp w r):=by
 have L:=zb (vl (T:=zu));have HT:=zj w (λw' hb=>hT.on hb);have HTB:=HT;obtain⟨K,R⟩:∃K,268435456=K:=⟨_,rfl⟩;have hKK:K<=268435456:=za;have hK0:0<K:=za;have P:=zb hn;have O:zd (r.den=1):=hd.trans hy;have M:zd (c<=1):=mF n hy;have Q:zd (((wd y 0:Nat):Int)=1):=by show _=_;rw [hy];rfl
 have o:=zj w (λw' b=>u.below b);have t:zd (Sz K x):=Sz.of_words u za;clear u S;have B:=zj w (λw' b=>n.below b);have HZab:zd (Sz K y):=Sz.of_words n za;clear n U;clear hT R hn hd hy;go_enter func60,ntmps60;have hB:=qZ w.heap.size w;have H:=(yF w 50 50 54 #[.slice g d j] #[.slice i c k] #[.bool false,.slice none 0 0,.slice none 0 0]).2.2.1;obtain⟨C,D,E,F,bz⟩:=yF w 50 50 54 #[.slice g d j] #[.slice i c k] #[.bool false,.slice none 0 0,.slice none 0 0];have hB:=zc hB C;have g1:=D.c1;have g2:=E.c1;have k3:=F;clear C D E F bz;go_wp2_with fail;generalize ((w.alloc (.cells #[.slice g d j] 50)).alloc (.cells #[.slice i c k] 50)).alloc (.cells #[.bool false,.slice none 0 0,.slice none 0 0] 54)=W1 at*;have k2:=H;clear H;(with_reducible refine(Sw (Q.o) (dH (y) i c k _ (B.o _ hB) M.o)).mono ?_);rintro e A ⟨rfl,hb⟩;have hB:=zc hB hb;obtain⟨g1,g2⟩:=xl hb g1 g2;obtain⟨k3,k2⟩:=y5 hb k3 k2;clear hb ;have m:=zb (aL A);obtain⟨I,J⟩:=bO k2;have z:=eS k2 (.slice none 0 0);have g1:=zW (q:=⟨w.heap.size+1,0,none⟩) (.slice none 0 0) (by show w.heap.size≠w.heap.size+1;omega) (g1);have k3:=zh.far (p:=⟨w.heap.size+1,0,none⟩) (k3) (by show w.heap.size+1+1≠w.heap.size+1;omega) (.slice none 0 0);have m:=zb (jj m.o k2 (yb.s1 _ _ _) (pL _ _ (.slice none 0 0)));have hB:=nR (.slice none 0 0) (by show w.heap.size<=w.heap.size+1;omega) hB;have g2:(A.setCell ⟨w.heap.size+1,0,none⟩ (.slice none 0 0)).cell? ⟨w.heap.size+1,0,none⟩=some (.slice none 0 0):=z.cell 0;have k2:=z;go_wp2_with fail;clear I J z;generalize A.setCell ⟨w.heap.size+1,0,none⟩ (.slice none 0 0)=W3 at*;go_wp2_with fail;have HZ5:zd (Sz (K) (zY s x).natAbs):=(by rw [iM];exact t.o);have C0:=zj W3 (λw' h=>L.o.new s (x) g d j w' (HT.o _ (zc hB h)) (o.o _ (zc hB h)) (yz t (o.o _ hB)));have a:=(qZ W3.heap.size W3).drew;refine rg (zk g1 (zk g2 zO)) (λhHeld=>?_);refine tk 0 ?_;refine tk 1 ?_;refine tk 3 ?_;refine rc 2 (λK hK=>?_);go_simp;go_at_call 118;(with_reducible refine(C0.o _ a).mono ?_);rintro e wa4 ⟨b5,B5,m5,d5,rfl,G,hb⟩;have a:=zc a hb;refine hK.out _ _ (Cs.below hHeld hb) (λhHeld=>?_);clear hK K hb
 try simp only [zI]
 refine tk 4 ?_;obtain⟨I,J,sc1,sf1,sc2,sf2⟩:=yf (zg a k3) (.bool b5) (.slice B5 m5 d5);refine rc 5 (λK hK=>?_);go_simp;refine hK.out _ _ (vC (.bool b5) (.slice B5 m5 d5) (.slice none 0 0) hHeld) (λhHeld=>?_);clear hK K
 try simp only [zI]
 refine z4 ?_;have hB:=zc hB a;have g1:=zq a g1;obtain⟨k3,k2⟩:=y5 a k3 k2;have m:=zb (m.o.below a);have g2:=zq a g2;have N:=zb G;clear a hHeld G C0;obtain⟨r0,r1,r2⟩:=(ym k3 (.bool b5) (.slice B5 m5 d5) (.slice none 0 0)).c3;have HG:=zb (vp (Ni P.o O.o N.o m.o) k3 hB za);go_wp2;refine bodyPost_ret (v:=.agg #[.bool b5,.slice B5 m5 d5,.slice none 0 0]) (by simp [results,results60,go_sem,r0,r1,r2]) rfl ?_;exact HG.o
theorem RN (r:Rat)(s:Bool)(x:Nat)(y:Nat)(j:ze)(i k:Nat)(c:ze)(a d:Nat)(w:World)(hT:zu w)(u:zo w x j i k)(m:zo w y c a d)(O:i<=268435456)(P:a<=268435456)(hn:r.num=zY s x)(hd:r.den=y)(hy:y≠1)(hm:a<=1):
  Calls prog 60 #[.bool s,.agg #[.slice j i k],.agg #[.slice c a d]] w (yp w r):=by
 have G:=zb (vl (T:=zu));have HT:=zj w (λw' hb=>hT.on hb);have HTB:=HT;obtain⟨K,N⟩:∃K,268435456=K:=⟨_,rfl⟩;have hKK:K<=268435456:=za;have hK0:0<K:=za;have L:=zb hn;have J:=zb hd;have HY:=zb hy;have H:=zb hm;have M:zd (((wd y 0:Nat):Int)=(y:Int)):=by show _=_;rw [WO (NH m hm)]
 have kb1:((y:Int)==1)=false:=by rw [beq_eq_false_iff_ne];omega
 have n:=zj w (λw' b=>u.below b);have t:zd (Sz K x):=Sz.of_words u za;clear u O;have o:=zj w (λw' b=>m.below b);have HZab:zd (Sz K y):=Sz.of_words m za;clear m P;clear hT N hn hd hy hm;go_enter func60,ntmps60;have hB:=qZ w.heap.size w;have F:=(yF w 50 50 54 #[.slice j i k] #[.slice c a d] #[.bool false,.slice none 0 0,.slice none 0 0]).2.2.1;obtain⟨A,B,C,D,bz⟩:=yF w 50 50 54 #[.slice j i k] #[.slice c a d] #[.bool false,.slice none 0 0,.slice none 0 0];have hB:=zc hB A;have g1:=B.c1;have g2:=C.c1;have k3:=D;clear A B C D bz;go_wp2_with fail;generalize ((w.alloc (.cells #[.slice j i k] 50)).alloc (.cells #[.slice c a d] 50)).alloc (.cells #[.bool false,.slice none 0 0,.slice none 0 0] 54)=W1 at*;have k2:=F;clear F;(with_reducible refine(Sw (M.o) (dH (y) c a d _ (o.o _ hB) H.o)).mono ?_);rintro e z ⟨rfl,hb⟩;have hB:=zc hB hb;obtain⟨g1,g2⟩:=xl hb g1 g2;obtain⟨k3,k2⟩:=y5 hb k3 k2;clear hb ;go_wp2_with fail;have HZ4:zd (Sz (K) (zY s x).natAbs):=(by rw [iM];exact t.o);have C0:=zj z (λw' h=>G.o.new s (x) j i k w' (HT.o _ (zc hB h)) (n.o _ (zc hB h)) (yz t (n.o _ hB)));have g:=(qZ z.heap.size z).drew;refine rg (zk g1 (zk g2 zO)) (λhHeld=>?_);refine tk 0 ?_;refine tk 1 ?_;refine tk 3 ?_;refine rc 2 (λK hK=>?_);go_simp;go_at_call 118;(with_reducible refine(C0.o _ g).mono ?_);rintro e wa3 ⟨b4,B4,m4,d4,rfl,E,hb⟩;have g:=zc g hb;refine hK.out _ _ (Cs.below hHeld hb) (λhHeld=>?_);clear hK K hb
 try simp only [zI]
 refine tk 4 ?_;obtain⟨sc0,sf0,sc1,sf1,sc2,sf2⟩:=yf (zg g k3) (.bool b4) (.slice B4 m4 d4);refine rc 5 (λK hK=>?_);go_simp;refine hK.out _ _ (vC (.bool b4) (.slice B4 m4 d4) (.slice c a d) hHeld) (λhHeld=>?_);clear hK K
 try simp only [zI]
 refine z4 ?_;have hB:=zc hB g;obtain⟨g1,g2⟩:=xl g g1 g2;obtain⟨k3,k2⟩:=y5 g k3 k2;have I:=zb E;clear g hHeld E C0;obtain⟨r0,r1,r2⟩:=(ym k3 (.bool b4) (.slice B4 m4 d4) (.slice c a d)).c3;have HG:=zb (vp (Ui L.o J.o HY.o I.o (o.o _ hB)) k3 hB za);go_wp2;refine bodyPost_ret (v:=.agg #[.bool b4,.slice B4 m4 d4,.slice c a d]) (by simp [results,results60,go_sem,r0,r1,r2]) rfl ?_;exact HG.o
theorem RO (r:Rat)(s:Bool)(x:Nat)(y:Nat)(j:ze)(i k:Nat)(c:ze)(a d:Nat)(w:World)(hT:zu w)(o:zo w x j i k)(t:zo w y c a d)(N:i<=268435456)(O:a<=268435456)(hn:r.num=zY s x)(hd:r.den=y)(hy:y≠1)(hm:1<a):
  Calls prog 60 #[.bool s,.agg #[.slice j i k],.agg #[.slice c a d]] w (yp w r):=by
 have G:=zb (vl (T:=zu));have HT:=zj w (λw' hb=>hT.on hb);have HTB:=HT;obtain⟨K,M⟩:∃K,268435456=K:=⟨_,rfl⟩;have hKK:K<=268435456:=za;have hK0:0<K:=za;have L:=zb hn;have J:=zb hd;have HY:=zb hy;have H:=zb hm;have m:=zj w (λw' b=>o.below b);have n:zd (Sz K x):=Sz.of_words o za;clear o N;have z:=zj w (λw' b=>t.below b);have HZab:zd (Sz K y):=Sz.of_words t za;clear t O;clear hT M hn hd hy hm;go_enter func60,ntmps60;have hB:=qZ w.heap.size w;have F:=(yF w 50 50 54 #[.slice j i k] #[.slice c a d] #[.bool false,.slice none 0 0,.slice none 0 0]).2.2.1;obtain⟨A,B,C,D,bz⟩:=yF w 50 50 54 #[.slice j i k] #[.slice c a d] #[.bool false,.slice none 0 0,.slice none 0 0];have hB:=zc hB A;have g1:=B.c1;have g2:=C.c1;have k3:=D;clear A B C D bz;go_wp2_with fail;generalize ((w.alloc (.cells #[.slice j i k] 50)).alloc (.cells #[.slice c a d] 50)).alloc (.cells #[.bool false,.slice none 0 0,.slice none 0 0] 54)=W1 at*;have k2:=F;clear F;(with_reducible refine(dJ c a d _ H.o).mono ?_);rintro e u ⟨rfl,hb⟩;have hB:=zc hB hb;obtain⟨g1,g2⟩:=xl hb g1 g2;obtain⟨k3,k2⟩:=y5 hb k3 k2;clear hb ;go_wp2_with fail;have HZ4:zd (Sz (K) (zY s x).natAbs):=(by rw [iM];exact n.o);have C0:=zj u (λw' h=>G.o.new s (x) j i k w' (HT.o _ (zc hB h)) (m.o _ (zc hB h)) (yz n (m.o _ hB)));have g:=(qZ u.heap.size u).drew;refine rg (zk g1 (zk g2 zO)) (λhHeld=>?_);refine tk 0 ?_;refine tk 1 ?_;refine tk 3 ?_;refine rc 2 (λK hK=>?_);go_simp;go_at_call 118;(with_reducible refine(C0.o _ g).mono ?_);rintro e wa3 ⟨b4,B4,m4,d4,rfl,E,hb⟩;have g:=zc g hb;refine hK.out _ _ (Cs.below hHeld hb) (λhHeld=>?_);clear hK K hb
 try simp only [zI]
 refine tk 4 ?_;obtain⟨sc0,sf0,sc1,sf1,sc2,sf2⟩:=yf (zg g k3) (.bool b4) (.slice B4 m4 d4);refine rc 5 (λK hK=>?_);go_simp;refine hK.out _ _ (vC (.bool b4) (.slice B4 m4 d4) (.slice c a d) hHeld) (λhHeld=>?_);clear hK K
 try simp only [zI]
 refine z4 ?_;have hB:=zc hB g;obtain⟨g1,g2⟩:=xl g g1 g2;obtain⟨k3,k2⟩:=y5 g k3 k2;have I:=zb E;clear g hHeld E C0;obtain⟨r0,r1,r2⟩:=(ym k3 (.bool b4) (.slice B4 m4 d4) (.slice c a d)).c3;have HG:=zb (vp (Ui L.o J.o HY.o I.o (z.o _ hB)) k3 hB za);go_wp2;refine bodyPost_ret (v:=.agg #[.bool b4,.slice B4 m4 d4,.slice c a d]) (by simp [results,results60,go_sem,r0,r1,r2]) rfl ?_;exact HG.o
theorem dO (r:Rat)(s:Bool)(x:Nat)(y:Nat)(d:ze)(c i:Nat)(g:ze)(a j:Nat)(w:World)(hT:zu w)(k:zo w x d c i)(m:zo w y g a j)(n:c<=268435456)(o:a<=268435456)(hn:r.num=zY s x)(hd:r.den=y):
  Calls prog 60 #[.bool s,.agg #[.slice d c i],.agg #[.slice g a j]] w (yp w r):=by
 by_cases hy:y=1
 ·exact RM r s x y d c i g a j w hT k m n o hn hd hy
 ·by_cases hm:a<=1
  ·exact RN r s x y d c i g a j w hT k m n o hn hd hy hm
  ·exact RO r s x y d c i g a j w hT k m n o hn hd hy za
