/- What this claim leans on. -/
import Derived.Test.YtdfdjfiognhbgaaGreatDoorDVApp
set_option linter.unusedVariables false
set_option linter.unusedSimpArgs false
namespace Go.Proofs.YtdfdjfiognhbgaaGreatDoor
open Go Go.RowKit Go.Proofs.Tryz
set_option maxHeartbeats 16000000
set_option maxRecDepth 100000
variable {b:Bool}{z:Int}{K c f k n x y:Nat}{w:World}{A E:ze}
theorem zn.to8 (e:x=y)(h:zn w x A n c):zn w y A n c:=e▸h
theorem zZ.to8 {x y:Int}(e:x=y)(h:zZ w x b A n c):zZ w y b A n c:=e▸h
theorem WU (x:Nat)(A:ze)(n c:Nat)(w:World)(h:zn w x A n c)(hn:n<=1099511627776):
  Calls prog 101 #[.agg #[.slice A n c]] w λe w'=>∃(B:ze) (m d:Nat),e=.returned (.slice B m d)/\zn w' x B m d/\Below w.heap.size w w':=by
 refine(lY x A n c w h hn).mono ?_;rintro e w' ⟨B,d,rfl,h1,h2,h3,h4⟩;exact⟨B,_,d,rfl,⟨h1,h2,h3.1⟩,h4⟩
theorem je (x:Nat)(A:ze)(n c:Nat)(w:World)(h:zn w x A n c)(hn:n<=1099511627776):
  Calls prog 104 #[.slice A n c] w λe w'=>∃(B:ze) (m d:Nat),e=.returned (.agg #[.slice B m d])/\zn w' x B m d/\Below w.heap.size w w':=by
 have k:=uS A n c _ w h.1 (vV zg x) h.2.1 h.2.2 hn;rw [vf zg] at k;refine k.mono ?_;rintro e w' ⟨B,m,d,rfl,h1,h2,_⟩;exact⟨B,m,d,rfl,h1,h2⟩
theorem Te {P:Program}{f:FuncId}{args:Array Value}{v:Int}(e:z=v)(h:Calls P f args w λe w'=>e=.returned (.tuple #[.int .u64 z,.bool true])/\Below w.heap.size w w'):Calls P f args w λe w'=>e=.returned (.tuple #[.int .u64 v,.bool true])/\Below w.heap.size w w':=by
 subst e;exact h
theorem VM (x:Nat)(A:ze)(n c:Nat)(w:World)(hA:zn w x A n c)(hn:n<=1099511627776):Calls prog 107 #[.agg #[.slice A n c]] w (wC w ((bitLen x:Nat):Int)):=aP x A n c w hA hn
theorem eK {K':Nat}(h:Sz K z.natAbs)(h':Sz K' k):Sz (K+K') (z*((k:Nat):Int)).natAbs:=by
 rw [xO,XZ];exact h.mul h'
theorem xl {q:Nat}(h:Sz K q)(e:q=(if x=0 then 1 else x)/\x≠1):Sz K x:=h.of_le (by rw [e.1];split<;>omega)
theorem xf {r:Rat}(h:zo w r b A n c E k f)(q:zQ n k)(hK:67108864=K):zm K r:=by
 obtain⟨x,e,hx⟩:=h.2;have h1:Sz K r.num.natAbs:=Sz.of_words h.1.2 (by have:=q.1;omega);have h2:Sz K x:=Sz.of_words hx (by have:=q.2;omega);refine⟨h1,?_⟩;rw [e.1]
 split
 ·exact jy zb
 ·exact h2
theorem en (w:World):zn w 0 none 0 0:=by
 refine⟨⟨by rw [show dg 18446744073709551616 0=[] from by rw [dg];rfl];rfl,λh=>absurd h zg⟩,qY _,zg⟩
theorem cR (w:World):zo w (0:Rat) false none 0 0 none 0 0:=⟨⟨rfl,en w⟩,⟨0,⟨rfl,zg⟩,en w⟩⟩
theorem eM (h:zZ w z b A n c):zo w (z:Rat) b A n c none 0 0:=⟨by rw [yU];exact h,⟨0,⟨by rw [yW];rfl,zg⟩,en w⟩⟩
theorem Pn {r:Rat}(hn:r.num=z)(hd:r.den=1)(h:zZ w z b A n c)(q:zn w 0 E k f):zo w r b A n c E k f:=
 ⟨by rw [hn];exact h,⟨0,⟨by rw [hd];rfl,zg⟩,q⟩⟩
theorem Wk {r:Rat}(hn:r.num=z)(hd:r.den=y)(hy:y≠1)(h:zZ w z b A n c)(q:zn w y E k f):zo w r b A n c E k f:=
 ⟨by rw [hn];exact h,⟨y,⟨by rw [if_neg (λh0=>r.den_nz (by rw [hd,h0]))];exact hd,hy⟩,q⟩⟩
theorem bF {q:Nat}(e:q=(if x=0 then 1 else x)/\x≠1)(h:q=1):x=0:=by
 refine Decidable.byContradiction λh0=>?_;rw [if_neg h0] at e;omega
theorem fX {q:Nat}(e:q=(if x=0 then 1 else x)/\x≠1)(h:q≠1):x≠0/\x=q:=by
 have h0:x≠0:=λh0=>h (by rw [e.1,if_pos h0]);refine⟨h0,?_⟩;have:=e.1;rw [if_neg h0] at this;exact this.symm
theorem Pu (z:Int):zW (decide (z<0)) z.natAbs=z:=by
 unfold zW;by_cases h:z<0
 ·rw [decide_eq_true h,if_pos rfl];omega
 ·rw [decide_eq_false h,if_neg zg];omega
theorem PT (h:zn w x A n c)(hn:n<=1):x<18446744073709551616:=aR h.len hn
theorem nN (h:zn w x A n c)(hx:x=1):n<=1:=by
 have h1:Sz 1 x:=by rw [hx];exact jy zg
 exact h1.words h
theorem RZ (p d:Int)(hd:d≠0):(Rat.divInt p d).num=zW (decide (p<0) !=decide (d<0)) (p.natAbs / Nat.gcd p.natAbs d.natAbs)/\(Rat.divInt p d).den=d.natAbs / Nat.gcd p.natAbs d.natAbs:=by
 refine⟨?_,Uh p d hd⟩;have h1:=Ui p d hd;have h2:=Vm p d hd;rw [<-h1];generalize (Rat.divInt p d).num=z at*;unfold zW;by_cases hp:p<0
 ·by_cases hq:d<0
  ·rw [decide_eq_true hp,decide_eq_true hq];simp;omega
  ·rw [decide_eq_true hp,decide_eq_false hq];simp;omega
 ·by_cases hq:d<0
  ·rw [decide_eq_false hp,decide_eq_true hq];simp;by_cases h0:p=0
   ·subst h0;simp at h1;omega
   ·omega
  ·rw [decide_eq_false hp,decide_eq_false hq];simp;omega
theorem bB (z:Int)(j:Bool)(i:ze)(d k:Nat)(w:World)(hT:zu w)(o:zZ w z j i d k)(G:d<=268435456):
  Calls prog 99 #[.agg #[.bool j,.slice i d k]] w (xF w z):=by
 have n:=za (wO (T:=zu));have HT:=zj w (λw' hb=>hT.on hb);have HTB:=HT;obtain⟨K,F⟩:∃K,268435456=K:=⟨_,rfl⟩;have hKK:K<=268435456:=zb;have hK0:0<K:=zb;have HV:=za (Pu z);obtain⟨sb,t⟩:∃s,decide (z<0)=s:=⟨_,rfl⟩;rw [t] at HV;have E:=za t;clear t;have g:=zj w (λw' b=>o.below b);have m:zd (Sz K z.natAbs):=Sz.of_words o.words zb;clear o G;clear hT F;go_enter func99,ntmps99;have hB:=qZ w.heap.size w;obtain⟨y,A,B,bz⟩:=zX w 39 39 #[.bool j,.slice i d k] #[.bool false,.slice none 0 0];have hB:=zc hB y;obtain⟨g1,e1⟩:=A.c2;have k2:=B;clear y A B bz;go_wp2_with fail;generalize (w.alloc (.cells #[.bool j,.slice i d k] 39)).alloc (.cells #[.bool false,.slice none 0 0] 39)=W1 at*;have C0:=zj W1 (λw' h=>xo (E.o) (n.o.belowI (z) j i d k w' (HT.o _ (zc hB h)) (g.o _ (zc hB h)) (yx m (g.o _ hB))));have u:zd (Sz (K) (z.natAbs)):=m.o;have C1:=zj W1 (λw' h=>n.o.abs (z) j i d k w' (HT.o _ (zc hB h)) (g.o _ (zc hB h)) (yx m (g.o _ hB)));have HZ4:zd (Sz (K) (zW sb z.natAbs).natAbs):=(by rw [jE];exact u.o);have C2:=zj W1 (λw' h B3 m3 d3 (c:zn w' (z.natAbs) B3 m3 d3)=>n.o.new sb (z.natAbs) B3 m3 d3 w' (HT.o _ (zc hB h)) c (yo u c));have a:=(qZ W1.heap.size W1).drew;refine rg (zl g1 (zl e1 zJ)) (λhHeld=>?_);refine tk 0 ?_;refine tk 2 ?_;refine rc 1 (λK hK=>?_);go_simp;go_at_call 97;(with_reducible refine(C0.o _ a).mono ?_);rintro e wa2 ⟨rfl,hb⟩;have a:=zc a hb;refine hK.out _ _ (Cs.below hHeld hb) (λhHeld=>?_);clear hK K hb
 try simp only [zG]
 refine rc 3 (λK hK=>?_);go_simp;go_at_call 98;(with_reducible refine(C1.o _ a).mono ?_);rintro e wa3 ⟨B3,m3,d3,rfl,c,hb⟩;have a:=zc a hb;refine hK.out _ _ (Cs.below hHeld hb) (λhHeld=>?_);clear hK K hb
 try simp only [zG]
 refine rc 4 (λK hK=>?_);go_simp;go_at_call 146;(with_reducible refine(C2.o _ a _ _ _ c).mono ?_);rintro e wa4 ⟨b4,B4,m4,d4,rfl,C,hb⟩;have a:=zc a hb;have c:=c.below hb;refine hK.out _ _ (Cs.below hHeld hb) (λhHeld=>?_);clear hK K hb
 try simp only [zG]
 obtain⟨sc0,sf0,sc1,sf1⟩:=wS (zf a k2) (.bool b4);refine rc 5 (λK hK=>?_);go_simp;refine hK.out _ _ (ZW (.bool b4) (.slice B4 m4 d4) hHeld) (λhHeld=>?_);clear hK K
 try simp only [zG]
 refine zT ?_;have hB:=zc hB a;obtain⟨g1,e1⟩:=xc a g1 e1;have k2:=zf a k2;have D:=za C;clear a hHeld c C C0 C1 C2;obtain⟨r0,r1⟩:=(wR k2 (.bool b4) (.slice B4 m4 d4)).c2;have HG:=za (dT (zZ.to8 HV.o D.o) k2 hB zb);go_wp2;refine bodyPost_ret (v:=.agg #[.bool b4,.slice B4 m4 d4]) (by simp [results,results99,go_sem,r0,r1]) rfl ?_;exact HG.o
theorem eA (z:Int)(k:Nat)(m:Bool)(i:ze)(d n:Nat)(j:ze)(g o:Nat)(w:World)(hT:zu w)(A:zZ w z m i d n)(B:zn w k j g o)(M:d<=134217728)(N:g<=134217728):
  Calls prog 158 #[.agg #[.bool m,.slice i d n],.agg #[.slice j g o]] w (xF w (z*((k:Nat):Int))):=by
 have C:=za (wO (T:=zu));have HT:=zj w (λw' hb=>hT.on hb);have HTB:=HT;obtain⟨K,L⟩:∃K,134217728=K:=⟨_,rfl⟩;have hKK:K<=134217728:=zb;have hK0:0<K:=zb;have s:=zj w (λw' b=>A.below b);have u:zd (Sz K z.natAbs):=Sz.of_words A.words zb;clear A M;have t:=zj w (λw' b=>B.below b);have y:zd (Sz K k):=Sz.of_words B zb;clear B N;clear hT L;go_enter func158,ntmps158;have hB:=qZ w.heap.size w;obtain⟨E,F,G,H,bz⟩:=yn w 39 37 39 #[.bool m,.slice i d n] #[.slice j g o] #[.bool false,.slice none 0 0];have hB:=zc hB E;obtain⟨g1,e1⟩:=F.c2;have g2:=G.c1;have k3:=H;clear E F G H bz;go_wp2_with fail;generalize ((w.alloc (.cells #[.bool m,.slice i d n] 39)).alloc (.cells #[.slice j g o] 37)).alloc (.cells #[.bool false,.slice none 0 0] 39)=W1 at*;have D:zd (Sz (K) (((k:Nat):Int)).natAbs):=(by rw [XZ];exact y.o);have C0:=zj W1 (λw' h=>rE C.o (k) j g o w' (HT.o _ (zc hB h)) (t.o _ (zc hB h)) (yo y (t.o _ hB)));have HZ5:zd (Sz (K+K) (z*(((k:Nat):Int))).natAbs):=SzI.mul u.o D.o;have C1:=zj W1 (λw' h b4 B4 m4 d4 (c:zZ w' (((k:Nat):Int)) b4 B4 m4 d4)=>C.o.mul (z) (((k:Nat):Int)) m b4 i B4 d m4 n d4 w' (HT.o _ (zc hB h)) (s.o _ (zc hB h)) c (yx u (s.o _ hB)) (yx D c));have a:=(qZ W1.heap.size W1).drew;refine rg (zl g1 (zl e1 (zl g2 zJ))) (λhHeld=>?_);refine tk 0 ?_;refine tk 1 ?_;refine rc 2 (λK hK=>?_);go_simp;go_at_call 146;(with_reducible refine(C0.o _ a).mono ?_);rintro e wa2 ⟨b4,B4,m4,d4,rfl,c,hb⟩;have a:=zc a hb;refine hK.out _ _ (Cs.below hHeld hb) (λhHeld=>?_);clear hK K hb
 try simp only [zG]
 refine rc 3 (λK hK=>?_);go_simp;go_at_call 132;(with_reducible refine(C1.o _ a _ _ _ _ c).mono ?_);rintro e wa3 ⟨b5,B5,m5,d5,rfl,I,hb⟩;have a:=zc a hb;have c:=c.below hb;refine hK.out _ _ (Cs.below hHeld hb) (λhHeld=>?_);clear hK K hb
 try simp only [zG]
 obtain⟨sc0,sf0,sc1,sf1⟩:=wS (zf a k3) (.bool b5);refine rc 4 (λK hK=>?_);go_simp;refine hK.out _ _ (ZW (.bool b5) (.slice B5 m5 d5) hHeld) (λhHeld=>?_);clear hK K
 try simp only [zG]
 refine zT ?_;have hB:=zc hB a;obtain⟨g1,e1,g2⟩:=yd a g1 e1 g2;have k3:=zf a k3;have J:=za I;clear a hHeld c I C0 C1;obtain⟨r0,r1⟩:=(wR k3 (.bool b5) (.slice B5 m5 d5)).c2;have HG:=za (dT (J.o) k3 hB zb);go_wp2;refine bodyPost_ret (v:=.agg #[.bool b5,.slice B5 m5 d5]) (by simp [results,results158,go_sem,r0,r1]) rfl ?_;exact HG.o
theorem SY (r:Rat)(k:Bool)(i:ze)(d m:Nat)(j:ze)(g n:Nat)(w:World)(hT:zu w)(t:zo w r k i d m j g n)(A:zQ d g)(hd:r.den=1):
  Calls prog 49 #[.agg #[.bool k,.slice i d m,.slice j g n]] w (λe w'=>e=.returned (.bool true)/\Below w.heap.size w w'):=by
 have HT:=zj w (λw' hb=>hT.on hb);have HTB:=HT;obtain⟨K,z⟩:∃K,67108864=K:=⟨_,rfl⟩;have hKK:K<=67108864:=zb;have hK0:0<K:=zb;obtain⟨C,a,c⟩:=t.2;have u:=za a;have o:zd (zm K r):=xf t A z;have HZaap:zd (Sz K r.num.natAbs):=o.o.num;have HZaaq:zd (Sz K C):=xl o.o.den a;have s:=zj w (λw' b=>c.below b);clear t A a c;have B:=za (bF u.o hd);clear hT z hd;go_enter func49,ntmps49;have hB:=qZ w.heap.size w;obtain⟨v,y,bz⟩:=zw w 41 #[.bool k,.slice i d m,.slice j g n];have hB:=zc hB v;obtain⟨g1,e1,i1⟩:=y.c3;clear v y bz;go_wp2_with fail;generalize w.alloc (.cells #[.bool k,.slice i d m,.slice j g n] 41)=W1 at*;(with_reducible refine(jG B.o (s.o _ hB)).mono ?_);rintro e wc2 ⟨rfl,hb⟩;have hB:=zc hB hb;obtain⟨g1,e1,i1⟩:=yd hb g1 e1 i1;clear hb ;go_wp2;go_ret;exact⟨by first|rfl|simp,hB⟩
theorem SX (r:Rat)(k:Bool)(i:ze)(d m:Nat)(j:ze)(g n:Nat)(w:World)(hT:zu w)(t:zo w r k i d m j g n)(A:zQ d g)(hd:r.den≠1):
  Calls prog 49 #[.agg #[.bool k,.slice i d m,.slice j g n]] w (λe w'=>e=.returned (.bool false)/\Below w.heap.size w w'):=by
 have HT:=zj w (λw' hb=>hT.on hb);have HTB:=HT;obtain⟨K,z⟩:∃K,67108864=K:=⟨_,rfl⟩;have hKK:K<=67108864:=zb;have hK0:0<K:=zb;obtain⟨C,a,c⟩:=t.2;have u:=za a;have o:zd (zm K r):=xf t A z;have HZaap:zd (Sz K r.num.natAbs):=o.o.num;have HZaaq:zd (Sz K C):=xl o.o.den a;have s:=zj w (λw' b=>c.below b);clear t A a c;have B:=za (fX u.o hd).1;clear hT z hd;go_enter func49,ntmps49;have hB:=qZ w.heap.size w;obtain⟨v,y,bz⟩:=zw w 41 #[.bool k,.slice i d m,.slice j g n];have hB:=zc hB v;obtain⟨g1,e1,i1⟩:=y.c3;clear v y bz;go_wp2_with fail;generalize w.alloc (.cells #[.bool k,.slice i d m,.slice j g n] 41)=W1 at*;(with_reducible refine(ko B.o (s.o _ hB)).mono ?_);rintro e wc2 ⟨rfl,hb⟩;have hB:=zc hB hb;obtain⟨g1,e1,i1⟩:=yd hb g1 e1 i1;clear hb ;go_wp2;go_ret;exact⟨by first|rfl|simp,hB⟩
theorem pT (r:Rat)(i:Bool)(d:ze)(a j:Nat)(g:ze)(c k:Nat)(w:World)(hT:zu w)(m:zo w r i d a j g c k)(n:zQ a c):
  Calls prog 49 #[.agg #[.bool i,.slice d a j,.slice g c k]] w (λe w'=>e=.returned (.bool (decide (r.den=1)))/\Below w.heap.size w w'):=by
 by_cases hd:r.den=1
 ·rw [decide_eq_true hd];exact SY r i d a j g c k w hT m n hd
 ·rw [decide_eq_false hd];exact SX r i d a j g c k w hT m n hd
theorem TU (r:Rat)(m:Bool)(i:ze)(c o:Nat)(j:ze)(d s:Nat)(w:World)(hT:zu w)(t:zo w r m i c o j d s)(E:zQ c d)(hd:r.den=1):
  Calls prog 105 #[.agg #[.bool m,.slice i c o,.slice j d s]] w (jH w r.den):=by
 have HT:=zj w (λw' hb=>hT.on hb);have HTB:=HT;obtain⟨K,C⟩:∃K,67108864=K:=⟨_,rfl⟩;have hKK:K<=67108864:=zb;have hK0:0<K:=zb;have u:=zj w (λw' b=>t.below b);obtain⟨G,y,z⟩:=t.2;have k:zd (zm K r):=xf t E C;have HZaap:zd (Sz K r.num.natAbs):=k.o.num;have HZaaq:zd (Sz K G):=xl k.o.den y;clear t E y z;have A:=za hd;clear hT C hd;go_enter func105,ntmps105;have hB:=qZ w.heap.size w;obtain⟨a,n,B,bz⟩:=zX w 41 37 #[.bool m,.slice i c o,.slice j d s] #[.slice none 0 0];have hB:=zc hB a;obtain⟨g1,e1,i1⟩:=n.c3;have k2:=B;clear a n B bz;go_wp2_with fail;generalize (w.alloc (.cells #[.bool m,.slice i c o,.slice j d s] 41)).alloc (.cells #[.slice none 0 0] 37)=W1 at*;(with_reducible refine(xo (decide_eq_true A.o) (pT (r) m i c o j d s _ (HT.o _ hB) (u.o _ hB) (szq k (u.o _ hB)))).mono ?_);rintro e g ⟨rfl,hb⟩;have hB:=zc hB hb;obtain⟨g1,e1,i1⟩:=yd hb g1 e1 i1;have k2:=zf hb k2;clear hb ;have lt1_2:w.heap.size<g.heap.size:=xQ g ⟨w.heap.size,0,none⟩ g1;have lt2_2:w.heap.size+1<g.heap.size:=k2.lt;have hq2:=hB.size;obtain⟨a,n,bz⟩:=zw g 132 #[.int .u64 1];have hB:=zc hB a;obtain⟨g1,e1,i1⟩:=yd a g1 e1 i1;have k2:=zf a k2;have k3:=n;clear a n bz;go_wp2_with fail;generalize g.alloc (.cells #[.int .u64 1] 132)=W3 at*;generalize g.heap.size=q3 at*;have HZ4:zd (Sz (1) (1)):=(by show(1:Nat)<18446744073709551616^1;decide);(with_reducible refine(UV _ [1] _ _ 1 (1) k3 rfl rfl (gj 1 zg) rfl zg).mono ?_);rintro e wc4 ⟨B4,m4,d4,rfl,D,hb,_⟩;have hB:=zc hB hb;obtain⟨g1,e1,i1⟩:=yd hb g1 e1 i1;obtain⟨k2,k3⟩:=yq hb k2 k3;have F:=za D;clear hb D;obtain⟨sc0,sf0⟩:=fO k2;have r0:=(gK k2 (.slice B4 m4 d4)).c1;have HG:=za (Z0 (zn.to8 A.o.symm F.o) k2 hB zb);go_wp2;refine bodyPost_ret (v:=.agg #[.slice B4 m4 d4]) (by simp [results,results105,go_sem,r0]) rfl ?_;exact HG.o
theorem TT (r:Rat)(k:Bool)(i:ze)(g m:Nat)(c:ze)(a d:Nat)(w:World)(hT:zu w)(s:zo w r k i g m c a d)(D:zQ g a)(hd:r.den≠1):
  Calls prog 105 #[.agg #[.bool k,.slice i g m,.slice c a d]] w (jH w r.den):=by
 have HT:=zj w (λw' hb=>hT.on hb);have HTB:=HT;obtain⟨K,C⟩:∃K,67108864=K:=⟨_,rfl⟩;have hKK:K<=67108864:=zb;have hK0:0<K:=zb;have t:=zj w (λw' b=>s.below b);obtain⟨G,n,o⟩:=s.2;have y:=za n;have j:zd (zm K r):=xf s D C;have HZaap:zd (Sz K r.num.natAbs):=j.o.num;have HZaaq:zd (Sz K G):=xl j.o.den n;have u:=zj w (λw' b=>o.below b);clear s D n o;have E:=za hd;have F:=za (fX y.o hd).2;clear hT C hd;go_enter func105,ntmps105;have hB:=qZ w.heap.size w;obtain⟨z,A,B,bz⟩:=zX w 41 37 #[.bool k,.slice i g m,.slice c a d] #[.slice none 0 0];have hB:=zc hB z;obtain⟨g1,e1,i1⟩:=A.c3;have k2:=B;clear z A B bz;go_wp2_with fail;generalize (w.alloc (.cells #[.bool k,.slice i g m,.slice c a d] 41)).alloc (.cells #[.slice none 0 0] 37)=W1 at*;(with_reducible refine(xo (decide_eq_false E.o) (pT (r) k i g m c a d _ (HT.o _ hB) (t.o _ hB) (szq j (t.o _ hB)))).mono ?_);rintro e wc2 ⟨rfl,hb⟩;have hB:=zc hB hb;obtain⟨g1,e1,i1⟩:=yd hb g1 e1 i1;have k2:=zf hb k2;clear hb ;obtain⟨sc0,sf0⟩:=fO k2;have r0:=(gK k2 (.slice c a d)).c1;have HG:=za (Z0 (zn.to8 F.o (u.o _ hB)) k2 hB zb);go_wp2;refine bodyPost_ret (v:=.agg #[.slice c a d]) (by simp [results,results105,go_sem,r0]) rfl ?_;exact HG.o
theorem lT (r:Rat)(i:Bool)(d:ze)(a j:Nat)(g:ze)(c k:Nat)(w:World)(hT:zu w)(m:zo w r i d a j g c k)(n:zQ a c):
  Calls prog 105 #[.agg #[.bool i,.slice d a j,.slice g c k]] w (jH w r.den):=by
 by_cases hd:r.den=1
 ·exact TU r i d a j g c k w hT m n hd
 ·exact TT r i d a j g c k w hT m n hd
theorem Wt (r:Rat)(u:Bool)(k:ze)(i y:Nat)(m:ze)(j B:Nat)(w:World)(hT:zu w)(C:zo w r u k i y m j B)(M:zQ i j):
  Calls prog 173 #[.agg #[.bool u,.slice k i y,.slice m j B]] w (xe w r):=by
 have HT:=zj w (λw' hb=>hT.on hb);have HTB:=HT;obtain⟨K,J⟩:∃K,67108864=K:=⟨_,rfl⟩;have hKK:K<=67108864:=zb;have hK0:0<K:=zb;obtain⟨d,z,A⟩:=C.2;have E:=za z;have D:zd (zm K r):=xf C M J;have s:zd (Sz K r.num.natAbs):=D.o.num;have t:zd (Sz K d):=xl D.o.den z;have n:=zj w (λw' b=>C.1.below b);have o:=zj w (λw' b=>A.below b);clear C M z A;clear hT J;go_enter func173,ntmps173;have hB:=qZ w.heap.size w;obtain⟨G,H,I,bz⟩:=zX w 41 41 #[.bool u,.slice k i y,.slice m j B] #[.bool false,.slice none 0 0,.slice none 0 0];have hB:=zc hB G;obtain⟨g1,e1,i1⟩:=H.c3;have k2:=I;clear G H I bz;go_wp2_with fail;generalize (w.alloc (.cells #[.bool u,.slice k i y,.slice m j B] 41)).alloc (.cells #[.bool false,.slice none 0 0,.slice none 0 0] 41)=W1 at*;have HZ3:zd (Sz (K) (r.num).natAbs):=s.o;have C0:=zj W1 (λw' h=>bB (r.num) u k i y w' (HT.o _ (zc hB h)) (n.o _ (zc hB h)) (yx s (n.o _ hB)));have F:zd (Sz (K) (d)):=t.o;have C1:=zj W1 (λw' h=>WU (d) m j B w' (o.o _ (zc hB h)) (yo t (o.o _ hB)));have HZ5:zd (Sz (K) (d)):=F.o;have C2:=zj W1 (λw' h B4 m4 d4 (c:zn w' (d) B4 m4 d4)=>je (d) B4 m4 d4 w' c (yo F c));have a:=(qZ W1.heap.size W1).drew;refine rg (zl g1 (zl e1 (zl i1 zJ))) (λhHeld=>?_);refine tk 0 ?_;refine tk 1 ?_;refine tk 3 ?_;refine tk 4 ?_;refine rc 2 (λK hK=>?_);go_simp;go_at_call 99;(with_reducible refine(C0.o _ a).mono ?_);rintro e wa2 ⟨b3,B3,m3,d3,rfl,g,hb⟩;have a:=zc a hb;refine hK.out _ _ (Cs.below hHeld hb) (λhHeld=>?_);clear hK K hb
 try simp only [zG]
 refine rc 5 (λK hK=>?_);go_simp;go_at_call 101;(with_reducible refine(C1.o _ a).mono ?_);rintro e wa3 ⟨B4,m4,d4,rfl,c,hb⟩;have a:=zc a hb;have g:=g.below hb;refine hK.out _ _ (Cs.below hHeld hb) (λhHeld=>?_);clear hK K hb
 try simp only [zG]
 refine rc 6 (λK hK=>?_);go_simp;go_at_call 104;(with_reducible refine(C2.o _ a _ _ _ c).mono ?_);rintro e wa4 ⟨B5,m5,d5,rfl,L,hb⟩;have a:=zc a hb;have g:=g.below hb;have c:=c.below hb;refine hK.out _ _ (Cs.below hHeld hb) (λhHeld=>?_);clear hK K hb
 try simp only [zG]
 refine tk 7 ?_;obtain⟨sc0,sf0,sc1,sf1,sc2,sf2⟩:=yh (zf a k2) (.bool b3) (.slice B3 m3 d3);refine rc 8 (λK hK=>?_);go_simp;refine hK.out _ _ (tB (.bool b3) (.slice B3 m3 d3) (.slice B5 m5 d5) hHeld) (λhHeld=>?_);clear hK K
 try simp only [zG]
 refine zT ?_;have hB:=zc hB a;obtain⟨g1,e1,i1⟩:=yd a g1 e1 i1;have k2:=zf a k2;have N:=za g;have O:=za L;clear a hHeld g c L C0 C1 C2;obtain⟨r0,r1,r2⟩:=(yg k2 (.bool b3) (.slice B3 m3 d3) (.slice B5 m5 d5)).c3;have HG:=za (wZ (⟨N.o,⟨d,E.o,O.o⟩⟩) k2 hB zb);go_wp2;refine bodyPost_ret (v:=.agg #[.bool b3,.slice B3 m3 d3,.slice B5 m5 d5]) (by simp [results,results173,go_sem,r0,r1,r2]) rfl ?_;exact HG.o
theorem mc (x:Nat)(A:ze)(n c:Nat)(w:World)(h:zn w x A n c)(hn:n<=1099511627776):Calls prog 104 #[.slice A n c] w (xp w x):=by
 have k:=uS A n c _ w h.1 (vV zg x) h.2.1 h.2.2 hn;rwa [vf zg] at k
theorem Ti {W W3:World}{g:Nat}{t:TypeId}{q:ze}{r s:Nat}(h:zn W x A n c)(hf:tN W3 A)(h3:w.heap.size<=W3.heap.size)(k:zh W g t #[.slice q r s])(hB:Below w.heap.size w W)(hg:w.heap.size<=g):xp w x (.returned (.agg #[.slice A n c])) (W.setCell ⟨g,0,none⟩ (.slice A n c)):=
 ⟨_,_,_,rfl,lZ h k (yf.s1 _ _ _) (qh _ _ _),o0 _ hg hB,λad e=>qL h3 (hf ad e)⟩
theorem SW (r:Rat)(j:Bool)(g:ze)(c k:Nat)(i:ze)(d m:Nat)(w:World)(hT:zu w)(n:zo w r j g c k i d m)(I:zQ c d):
  Calls prog 48 #[.agg #[.bool j,.slice g c k,.slice i d m]] w (xp w r.den):=by
 have HT:=zj w (λw' hb=>hT.on hb);have HTB:=HT;obtain⟨K,E⟩:∃K,67108864=K:=⟨_,rfl⟩;have hKK:K<=67108864:=zb;have hK0:0<K:=zb;have o:=zj w (λw' b=>n.below b);obtain⟨N,s,t⟩:=n.2;have a:zd (zm K r):=xf n I E;have HZaap:zd (Sz K r.num.natAbs):=a.o.num;have HZaaq:zd (Sz K N):=xl a.o.den s;clear n I s t;clear hT E;go_enter func48,ntmps48;have hB:=qZ w.heap.size w;obtain⟨B,C,D,bz⟩:=zX w 41 37 #[.bool j,.slice g c k,.slice i d m] #[.slice none 0 0];have hB:=zc hB B;obtain⟨g1,e1,i1⟩:=C.c3;have k2:=D;clear B C D bz;go_wp2_with fail;generalize (w.alloc (.cells #[.bool j,.slice g c k,.slice i d m] 41)).alloc (.cells #[.slice none 0 0] 37)=W1 at*;have z:zd (Sz (K) (r.den)):=zm.den a.o;(with_reducible refine(lT (r) j g c k i d m _ (HT.o _ hB) (o.o _ hB) (szq a (o.o _ hB))).mono ?_);rintro e wc2 ⟨B3,m3,d3,rfl,F,hb⟩;have hB:=zc hB hb;obtain⟨g1,e1,i1⟩:=yd hb g1 e1 i1;have k2:=zf hb k2;have u:=za F;clear hb F;go_wp2_with fail;have A:zd (Sz (K) (r.den)):=z.o;(with_reducible refine(WU (r.den) B3 m3 d3 _ u.o (yo z u.o)).mono ?_);rintro e wc3 ⟨B4,m4,d4,rfl,G,hb⟩;have hB:=zc hB hb;obtain⟨g1,e1,i1⟩:=yd hb g1 e1 i1;have k2:=zf hb k2;have y:=za G;clear hb G;go_wp2_with fail;have HZ5:zd (Sz (K) (r.den)):=A.o;(with_reducible refine(mc (r.den) B4 m4 d4 _ y.o (yo A y.o)).mono ?_);rintro e wc4 ⟨B5,m5,d5,rfl,H,hb,L⟩;have M:=hB.size;have hB:=zc hB hb;obtain⟨g1,e1,i1⟩:=yd hb g1 e1 i1;have k2:=zf hb k2;have J:=za H;clear hb H;obtain⟨sc0,sf0⟩:=fO k2;have r0:=(gK k2 (.slice B5 m5 d5)).c1;have HG:=za (Ti (J.o) L M k2 hB zb);go_wp2;refine bodyPost_ret (v:=.agg #[.slice B5 m5 d5]) (by simp [results,results48,go_sem,r0]) rfl ?_;exact HG.o
theorem Zr (r:Rat)(j:Bool)(g:ze)(a k:Nat)(i:ze)(d m:Nat)(w:World)(hT:zu w)(o:zo w r j g a k i d m)(s:zQ a d):
  Calls prog 48 #[.agg #[.bool j,.slice g a k,.slice i d m]] w (jH w r.den):=
 (SW r j g a k i d m w hT o s).mono λ_ _ ⟨A,n,c,e,h,hb,_⟩=>⟨A,n,c,e,h,hb⟩
theorem U2 (r:Rat)(i:Bool)(c:ze)(a j:Nat)(m:ze)(k o:Nat)(w:World)(hT:zu w)(n:zo w r i c a j m k o)(D:zQ a k):
  Calls prog 46 #[.agg #[.bool i,.slice c a j,.slice m k o]] w (xF w r.num):=by
 have HT:=zj w (λw' hb=>hT.on hb);have HTB:=HT;obtain⟨K,B⟩:∃K,67108864=K:=⟨_,rfl⟩;have hKK:K<=67108864:=zb;have hK0:0<K:=zb;obtain⟨F,t,u⟩:=n.2;have s:zd (zm K r):=xf n D B;have g:zd (Sz K r.num.natAbs):=s.o.num;have HZaaq:zd (Sz K F):=xl s.o.den t;have d:=zj w (λw' b=>n.1.below b);clear n D t u;clear hT B;go_enter func46,ntmps46;have hB:=qZ w.heap.size w;obtain⟨y,z,A,bz⟩:=zX w 41 39 #[.bool i,.slice c a j,.slice m k o] #[.bool false,.slice none 0 0];have hB:=zc hB y;obtain⟨g1,e1,i1⟩:=z.c3;have k2:=A;clear y z A bz;go_wp2_with fail;generalize (w.alloc (.cells #[.bool i,.slice c a j,.slice m k o] 41)).alloc (.cells #[.bool false,.slice none 0 0] 39)=W1 at*;have HZ3:zd (Sz (K) (r.num).natAbs):=g.o;(with_reducible refine(bB (r.num) i c a j _ (HT.o _ hB) (d.o _ hB) (yx g (d.o _ hB))).mono ?_);rintro e wc2 ⟨b3,B3,m3,d3,rfl,C,hb⟩;have hB:=zc hB hb;obtain⟨g1,e1,i1⟩:=yd hb g1 e1 i1;have k2:=zf hb k2;have E:=za C;clear hb C;obtain⟨sc0,sf0,sc1,sf1⟩:=wS k2 (.bool b3);obtain⟨r0,r1⟩:=(wR k2 (.bool b3) (.slice B3 m3 d3)).c2;have HG:=za (dT (E.o) k2 hB zb);go_wp2;refine bodyPost_ret (v:=.agg #[.bool b3,.slice B3 m3 d3]) (by simp [results,results46,go_sem,r0,r1]) rfl ?_;exact HG.o
theorem Qb (r:Rat)(g:Bool)(c:ze)(a i:Nat)(k:ze)(j n:Nat)(w:World)(hT:zu w)(m:zo w r g c a i k j n)(B:zQ a j)(v:Int)(hv:vD r.num=v):
  Calls prog 36 #[.agg #[.bool g,.slice c a i,.slice k j n]] w (wC w v):=by
 have C:=za (wO (T:=zu));have HT:=zj w (λw' hb=>hT.on hb);have HTB:=HT;obtain⟨K,A⟩:∃K,67108864=K:=⟨_,rfl⟩;have hKK:K<=67108864:=zb;have hK0:0<K:=zb;have HV:=za hv;obtain⟨D,s,u⟩:=m.2;have o:zd (zm K r):=xf m B A;have t:zd (Sz K r.num.natAbs):=o.o.num;have HZaaq:zd (Sz K D):=xl o.o.den s;have d:=zj w (λw' b=>m.1.below b);clear m B s u;clear hT A hv;go_enter func36,ntmps36;have hB:=qZ w.heap.size w;obtain⟨y,z,bz⟩:=zw w 41 #[.bool g,.slice c a i,.slice k j n];have hB:=zc hB y;obtain⟨g1,e1,i1⟩:=z.c3;clear y z bz;go_wp2_with fail;generalize w.alloc (.cells #[.bool g,.slice c a i,.slice k j n] 41)=W1 at*;(with_reducible refine(ui (v:=v) (HV.o) (C.o.sign (r.num) g c a i _ (HT.o _ hB) (d.o _ hB) (yx t (d.o _ hB)))).mono ?_);rintro e wc2 ⟨rfl,hb⟩;have hB:=zc hB hb;obtain⟨g1,e1,i1⟩:=yd hb g1 e1 i1;clear hb ;go_wp2;go_ret;exact⟨by first|rfl|simp,hB⟩
theorem Zc (r:Rat)(i:Bool)(d:ze)(a j:Nat)(g:ze)(c k:Nat)(w:World)(hT:zu w)(m:zo w r i d a j g c k)(n:zQ a c):
  Calls prog 36 #[.agg #[.bool i,.slice d a j,.slice g c k]] w (wC w (tE r)):=by
 exact Qb r i d a j g c k w hT m n (tE r) rfl
theorem Qd (r:Rat)(j:Bool)(d:ze)(a k:Nat)(g:ze)(c m:Nat)(w:World)(hT:zu w)(n:zo w r j d a k g c m)(A:zQ a c)(h0:r=0):
  Calls prog 10 #[.agg #[.bool j,.slice d a k,.slice g c m]] w (λe w'=>e=.returned (.bool true)/\Below w.heap.size w w'):=by
 have HT:=zj w (λw' hb=>hT.on hb);have HTB:=HT;obtain⟨K,z⟩:∃K,67108864=K:=⟨_,rfl⟩;have hKK:K<=67108864:=zb;have hK0:0<K:=zb;have o:=zj w (λw' b=>n.below b);obtain⟨B,s,t⟩:=n.2;have i:zd (zm K r):=xf n A z;have HZaap:zd (Sz K r.num.natAbs):=i.o.num;have HZaaq:zd (Sz K B):=xl i.o.den s;clear n A s t;have HV:zd (tE r=0):=by show _=_;rw [h0];rfl
 clear hT z h0;go_enter func10,ntmps10;have hB:=qZ w.heap.size w;obtain⟨u,y,bz⟩:=zw w 41 #[.bool j,.slice d a k,.slice g c m];have hB:=zc hB u;obtain⟨g1,e1,i1⟩:=y.c3;clear u y bz;go_wp2_with fail;generalize w.alloc (.cells #[.bool j,.slice d a k,.slice g c m] 41)=W1 at*;(with_reducible refine(ui (v:=0) (HV.o) (Zc (r) j d a k g c m _ (HT.o _ hB) (o.o _ hB) (szq i (o.o _ hB)))).mono ?_);rintro e wc2 ⟨rfl,hb⟩;have hB:=zc hB hb;obtain⟨g1,e1,i1⟩:=yd hb g1 e1 i1;clear hb ;go_wp2;go_ret;exact⟨by first|rfl|simp,hB⟩
theorem Qc (r:Rat)(k:Bool)(g:ze)(c m:Nat)(i:ze)(d n:Nat)(w:World)(hT:zu w)(o:zo w r k g c m i d n)(C:zQ c d)(h0:r≠0):
  Calls prog 10 #[.agg #[.bool k,.slice g c m,.slice i d n]] w (λe w'=>e=.returned (.bool false)/\Below w.heap.size w w'):=by
 have HT:=zj w (λw' hb=>hT.on hb);have HTB:=HT;obtain⟨K,B⟩:∃K,67108864=K:=⟨_,rfl⟩;have hKK:K<=67108864:=zb;have hK0:0<K:=zb;have t:=zj w (λw' b=>o.below b);obtain⟨D,u,y⟩:=o.2;have j:zd (zm K r):=xf o C B;have HZaap:zd (Sz K r.num.natAbs):=j.o.num;have HZaaq:zd (Sz K D):=xl j.o.den u;clear o C u y;obtain⟨sg,a⟩:∃s,tE r=s:=⟨_,rfl⟩;have HV:=za a;have kb1:(sg==0)=false:=by
  rw [beq_eq_false_iff_ne];intro h9;rw [h9] at a;refine h0 (Rat.num_eq_zero.1 ?_);unfold tE vD at a
  split at a
  ·omega
  ·split at a<;>omega
 clear hT B h0 a;go_enter func10,ntmps10;have hB:=qZ w.heap.size w;obtain⟨z,A,bz⟩:=zw w 41 #[.bool k,.slice g c m,.slice i d n];have hB:=zc hB z;obtain⟨g1,e1,i1⟩:=A.c3;clear z A bz;go_wp2_with fail;generalize w.alloc (.cells #[.bool k,.slice g c m,.slice i d n] 41)=W1 at*;(with_reducible refine(ui (v:=sg) (HV.o) (Zc (r) k g c m i d n _ (HT.o _ hB) (t.o _ hB) (szq j (t.o _ hB)))).mono ?_);rintro e wc2 ⟨rfl,hb⟩;have hB:=zc hB hb;obtain⟨g1,e1,i1⟩:=yd hb g1 e1 i1;clear hb ;go_wp2;go_ret;exact⟨by first|rfl|simp,hB⟩
theorem uQ (r:Rat)(i:Bool)(d:ze)(a j:Nat)(g:ze)(c k:Nat)(w:World)(hT:zu w)(m:zo w r i d a j g c k)(n:zQ a c):
  Calls prog 10 #[.agg #[.bool i,.slice d a j,.slice g c k]] w (λe w'=>e=.returned (.bool (decide (r=0)))/\Below w.heap.size w w'):=by
 by_cases h0:r=0
 ·rw [decide_eq_true h0];exact Qd r i d a j g c k w hT m n h0
 ·rw [decide_eq_false h0];exact Qc r i d a j g c k w hT m n h0
def pU (l:Rat)(row:List Rat):Rat:=row.foldl (λl x=>l*(((l*x).den:Nat):Rat)) l
def yi (row:List Rat):Rat:=pU 1 row
def ul (x:Rat):Prop:=∃z:Int,x=(z:Rat)
theorem ul.mul {x y:Rat}(h:ul x)(k:ul y):ul (x*y):=by
 obtain⟨z,rfl⟩:=h;obtain⟨t,rfl⟩:=k;exact⟨z*t,(yB z t).symm⟩
theorem ul.nat (n:Nat):ul (n:Rat):=⟨n,(YV n).symm⟩
theorem kJ (x:Rat):((x.den:Nat):Rat)≠0:=λh=>x.den_nz (by
 have:((x.den:Nat):Rat)=((0:Nat):Rat):=h;exact Rat.natCast_inj.1 this)
theorem nh (x:Rat):ul (((x.den:Nat):Rat)*x):=⟨x.num,by rw [YN];exact gZ x⟩
theorem gY (l x:Rat)(row:List Rat):pU l (x::row)=pU (l*(((l*x).den:Nat):Rat)) row:=rfl
theorem fq:∀{row:List Rat} {l:Rat},l≠0->pU l row≠0
 |[],_,h=>h
 |x::row,l,h=>by
   rw [gY];refine fq λe=>?_;rcases Rat.mul_eq_zero.1 e with e|e
   ·exact h e
   ·exact kJ _ e
theorem eN:∀{row:List Rat} {l:Rat},∃q:Rat,ul q/\pU l row=q*l
 |[],l=>⟨1,⟨1,by decide+kernel⟩,(XA l).symm⟩
 |x::row,l=>by
   obtain⟨q,hq,e⟩:=eN (row:=row) (l:=l*(((l*x).den:Nat):Rat));exact⟨q*(((l*x).den:Nat):Rat),hq.mul (ul.nat _),by rw [gY,e];grind⟩
theorem WP:∀{row:List Rat} {l:Rat},∀x ∈ row,ul (pU l row*x)
 |x::row,l,y,h=>by
   rcases List.mem_cons.1 h with rfl|h
   ·obtain⟨q,hq,e⟩:=eN (row:=row) (l:=l*(((l*y).den:Nat):Rat));rw [gY,e];have:=hq.mul (nh (l*y));rw [show q*(l*(((l*y).den:Nat):Rat))*y=q*((((l*y).den:Nat):Rat)*(l*y)) by grind];exact this
   ·rw [gY];exact WP y h
theorem ng {q:Int}{r:Rat}(h:(q:Rat)*r=(z:Rat)):(r.den:Int)∣ q:=by
 have h1:(q:Rat)*(r*((r.den:Nat):Rat))=(z:Rat)*((r.den:Nat):Rat):=by rw [<-h];grind
 rw [gZ,<-yB,<-YV,<-yB] at h1;have h2:q*r.num=z*(r.den:Int):=Rat.intCast_inj.1 h1;have h3:r.den ∣ q.natAbs*r.num.natAbs:=by
  rw [<-xO,h2,xO];exact⟨z.natAbs,by rw [qS];rfl⟩
 have h4:r.den ∣ q.natAbs:=Nat.Coprime.dvd_of_dvd_mul_right r.reduced.symm h3;exact Int.ofNat_dvd_left.2 h4
theorem LI.int {x:Rat}(h:LI K x):ul x:=by obtain⟨z,e,_⟩:=h;exact⟨z,e⟩
theorem LI.of_mul {q x y:Rat}(h:LI K y)(hq:ul q)(hx:ul x)(e:y=q*x)(h0:q≠0):LI K x:=by
 obtain⟨z,rfl⟩:=hq;obtain⟨t,rfl⟩:=hx;obtain⟨v,rfl,hv⟩:=h;refine⟨t,rfl,hv.of_le ?_⟩;rw [<-yB] at e;rw [Rat.intCast_inj.1 e,xO];have:z≠0:=λhz=>h0 (by rw [hz];rfl);exact Nat.le_mul_of_pos_left _ (Int.natAbs_pos.2 this)
theorem Oh {row:List Rat}{l:Rat}(h:ul l):ul (pU l row):=by
 obtain⟨q,hq,e⟩:=eN (row:=row) (l:=l);rw [e];exact hq.mul h
theorem mf:ul 1:=⟨1,by decide+kernel⟩
theorem WR (row:List Rat):yi row≠0:=fq (by decide+kernel)
theorem Uc:∀{row:List Rat} {l:Rat} {K L:Nat},LI L l->(∀x ∈ row,zm K x)->LI (L+row.length*K) (pU l row)
 |[],l,K,L,hl,_=>by rw [YB,Nat.zero_mul];exact hl
 |x::row,l,K,L,hl,h=>by
   rw [gY];have h1:LI K (((l*x).den:Nat):Rat):=by
    obtain⟨z,hz,_⟩:=hl;have hd:(l*x).den ∣ x.den:=by
     have:((x.den:Int):Rat)*(l*x)=((z*x.num:Int):Rat):=by
      rw [yB,<-hz,<-gZ x,YV];grind
     exact Int.natCast_dvd_natCast.1 (ng this)
    exact⟨((l*x).den:Int),(YV _).symm,((h x xM).den).of_le (Nat.le_of_dvd (xR x.den_nz) hd)⟩
   refine(Uc (K:=K) (hl.mul h1) λy hy=>h y (XN _ hy)).up ?_;rw [xP,Nat.succ_mul];omega
theorem jc {l x:Rat}{L:Nat}(hl:LI L l)(hx:zm K x)(hi:ul (l*x)):LI (L+K) (l*x):=by
 obtain⟨z,hz,a⟩:=hl;obtain⟨t,ht⟩:=hi;refine⟨t,ht,?_⟩
 -- t*den=z*num
 have h1:t*(x.den:Int)=z*x.num:=by
  have:(t:Rat)*((x.den:Nat):Rat)=(z:Rat)*(x.num:Rat):=by
   rw [<-ht,hz,<-gZ x];grind
  rw [<-YV,<-yB,<-yB] at this;exact Rat.intCast_inj.1 this
 have h2:t.natAbs*x.den=z.natAbs*x.num.natAbs:=by
  rw [<-xO,<-h1,xO];rfl
 refine(a.mul hx.num).of_le ?_;rw [<-h2];exact Nat.le_mul_of_pos_right _ (xR x.den_nz)
theorem WQ {row:List Rat}(hn:row.length<=n)(h:∀x ∈ row,zm K x):LI (1+(n+1)*K) (yi row)/\∀x ∈ row,LI (1+(n+1)*K) (yi row*x):=by
 have h1:=Uc (K:=K) LI.one h;have hm:row.length*K<=n*K:=qW _ hn;have hs:(n+1)*K=n*K+K:=Nat.succ_mul n K;exact⟨h1.up zb,λx hx=>(jc h1 (h x hx) (WP x hx)).up zb⟩
theorem RU {row:List Rat}(h:LI K (yi row)):LI K (yi (row.take k)):=by
 obtain⟨q,hq,e⟩:=eN (row:=row.drop k) (l:=yi (row.take k));have e2:pU (yi (row.take k)) (row.drop k)=yi row:=by
  unfold yi pU;rw [<-yR,YO]
 rw [e2] at e;exact h.of_mul hq (Oh mf) e λhz=>WR row (by rw [e,hz,yV])
theorem RT {row:List Rat}(h:k<row.length):yi (row.take (k+1))=yi (row.take k)*(((yi (row.take k)*row.getD k 0).den:Nat):Rat):=by
 unfold yi pU;rw [qE h,yR,qQ,qX h];rfl
theorem nZ {x:Rat}(h:x.den≠1):(x.num:Rat) / x=((x.den:Nat):Rat):=by
 have hx:x≠0:=λe=>h (by rw [e];rfl);have:=gZ x;rw [<-this]
 grind
