/- What this claim leans on. -/
import Derived.Test.YtdfdjfiognhbgaaGreatDoorDMLaw
set_option linter.unusedVariables false
set_option linter.unusedSimpArgs false
namespace Go.Proofs.YtdfdjfiognhbgaaGreatDoor
open Go Go.RowKit Go.Proofs.Tryz
set_option maxHeartbeats 16000000
set_option maxRecDepth 100000
variable {Ls S:List (List Rat)}{ld:List Nat}{K c gc i j m n:Nat}{a0:Nat->Nat->Rat}{p x:Rat}{w:World}{A:ze}
theorem Vo (z:Int)(w:World):Calls prog 159 #[.int .i64 z] w (λe w'=>e=.returned (.bool false)/\w=w'):=by
 have h1:(z !=z)=false:=zE;go_enter func159,ntmps159;go_wp2;go_ret;exact⟨rfl,rfl⟩
theorem SG (n m:Nat)(w:World):Calls prog 128 #[.int .i64 (n:Int),.int .i64 (m:Int)] w (λe w'=>e=.returned (.int .i64 (sV n m))/\w=w'):=by
 have H1:=za (Vo (n:Int) w);have H2:=za (Vo (m:Int) w);unfold sV;by_cases h1:n<m
 ·have hd:decide ((n:Int)<(m:Int))=true:=decide_eq_true zb;have a:decide (n<m)=true:=decide_eq_true zb;rw [if_pos h1];go_enter func128,ntmps128;go_wp2_with fail;refine H1.o.mono ?_;rintro e w1 ⟨rfl,rfl⟩;go_wp2_with fail;refine H2.o.mono ?_;rintro e w1 ⟨rfl,rfl⟩;go_wp2;go_ret;exact⟨rfl,rfl⟩
 ·have hd:decide ((n:Int)<(m:Int))=false:=decide_eq_false zb;have a:decide (n<m)=false:=decide_eq_false zb;rw [if_neg h1];by_cases h2:n=m
  ·rw [if_pos h2];have c:decide ((m:Int)<(n:Int))=false:=decide_eq_false zb;have d:decide ((n:Int)>(m:Int))=false:=decide_eq_false zb;have g:decide (m<n)=false:=decide_eq_false zb;clear h1 h2;go_enter func128,ntmps128;go_wp2_with fail;refine H1.o.mono ?_;rintro e w1 ⟨rfl,rfl⟩;go_wp2_with fail;refine H2.o.mono ?_;rintro e w1 ⟨rfl,rfl⟩;go_wp2;go_ret;exact⟨rfl,rfl⟩
  ·rw [if_neg h2];have c:decide ((m:Int)<(n:Int))=true:=decide_eq_true zb;have d:decide ((n:Int)>(m:Int))=true:=decide_eq_true zb;have g:decide (m<n)=true:=decide_eq_true zb;clear h1 h2;go_enter func128,ntmps128;go_wp2_with fail;refine H1.o.mono ?_;rintro e w1 ⟨rfl,rfl⟩;go_wp2_with fail;refine H2.o.mono ?_;rintro e w1 ⟨rfl,rfl⟩;go_wp2;go_ret;exact⟨rfl,rfl⟩
section
variable {K K':Nat}{xs ys:List Rat}{A B:ze}{n n' c d:Nat}{w:World}
theorem Oe {z:Int}(hz:vR xs ys=z)(hT:zu w)(ha:zU w A n c xs)(hb:zU w B n' d ys)(hx:zK K xs)(hy:zK K' ys)(hn:n<=1073741824:=by omega)(hn':n'<=1073741824:=by omega)(hK:K<=67108864:=by omega)(J:K'<=67108864:=by omega):
  Calls prog 73 #[.slice A n c,.slice B n' d] w (wC w z):=by
 have P:=ha.len;have Q:=hb.len;have M:=za P;have O:=za Q;have HZ:=za hz;have H:zd (∀i,i<n->zm K (xs.getD i 0)):=λi hi=>hx.at_ zb;have I:zd (∀i,i<n'->zm K' (ys.getD i 0)):=λi hi=>hy.at_ zb;unfold wC;have HA:=za ha;have V:=za hb;have HT:=zj w (λw' hb=>hT.on hb);clear hT ha hb hx hy P Q hz;have hB:=qZ w.heap.size w;have i0:(0:Int)<=(n:Int):=zb;obtain⟨N,hN⟩:∃N,min n n'=N:=⟨_,rfl⟩;have hNn:N<=n:=zb;have hNm:N<=n':=zb;have HN:=za hN;have R:min (n:Int) (n':Int)=(N:Int):=zb;have S:(if (n':Int)<(n:Int) then(n':Int) else(n:Int))=(N:Int):=by split<;>omega
 have T:(if n'<n then(n':Int) else(n:Int))=(N:Int):=by split<;>omega
 clear hN;go_enter func73,ntmps73;go_wp2_with fail;clear R S T
 go_loopg [11] (N+1) (λg ix wr=>∃(k:Nat),k<=N/\N<g+k/\ix=.int .i64 k/\zd (vR (xs.drop k) (ys.drop k)=z)/\Below w.heap.size w wr)
 case atStart=>exact⟨0,qN _,zb,rfl,HZ,hB⟩
 case round=>
  clear hB;obtain⟨k,hkn,hg,rfl,L,hB⟩:=hrel;by_cases hlt:k<N
  ·have o:k<n:=zb;have m:k<n':=zb;obtain⟨ad,b1,B1,m1,d1,E1,u1,v1,rfl,-,u,v,y,hx⟩:=HA.o.get hB o;obtain⟨ae,b2,B2,m2,d2,E2,u2,v2,rfl,-,C,D,E,hy⟩:=V.o.get hB m;have aa:decide ((k:Int)<(N:Int))=true:=decide_eq_true zb;have i1:(0:Int)<=(k:Int):=zb;have i2:(k:Int)<(n:Int):=zb;have i3:(k:Int)<(n':Int):=zb;have HX:=za hx;have HY:=za hy;have s:=za hB;have F:k<xs.length:=by have:=M.o;omega
   have G:k<ys.length:=by have:=O.o;omega
   clear hx hy hB;by_cases h0:xs.getD k 0=ys.getD k 0
   ·have HQ:=za (decide_eq_true h0);have Z:zd (vR (xs.drop (k+1)) (ys.drop (k+1))=z):=by
     show _=_;rw [<-Ty F G h0];exact L.o
    clear h0 F G;go_wp2_with fail;have a:=(qZ wr.heap.size wr).drew;refine rg (zl u (zl v (zl y (zl C (zl D (zl E zJ)))))) (λhHeld=>?_);refine tk 0 ?_;refine tk 1 ?_;refine tk 2 ?_;refine tk 3 ?_;refine tk 4 ?_;refine tk 5 ?_;refine tk 6 ?_;refine tk 7 ?_;refine rc 8 (λKK j=>?_);go_simp;(with_reducible refine(qt HQ.o (HT.o _ (zc s.o a)) (HX.o.below a) (HY.o.below a) (H.o k o) (I.o k m) hK J).mono ?_);rintro e wa ⟨rfl,hb⟩;have a:=zc a hb;refine j.out _ _ (Cs.below hHeld hb) (λhHeld=>?_);clear j KK hb;refine tk 9 ?_;refine zT ?_;have t:=za (zc s.o a);clear hHeld a u v y C D E HX HY s;go_wp2;go_roundg (N - k)
    case measure=>omega
    case rel=>exact⟨k+1,zb,zb,by go_num,Z,t.o⟩
   ·have HQ:=za (decide_eq_false h0);have HF:zd (uW (xs.getD k 0) (ys.getD k 0)=z):=by
     show _=_;rw [<-Ts F G h0];exact L.o
    clear h0 F G;go_wp2_with fail;have a:=(qZ wr.heap.size wr).drew;refine rg (zl u (zl v (zl y (zl C (zl D (zl E zJ)))))) (λhHeld=>?_);refine tk 0 ?_;refine tk 1 ?_;refine tk 2 ?_;refine tk 3 ?_;refine tk 4 ?_;refine tk 5 ?_;refine tk 6 ?_;refine tk 7 ?_;refine rc 8 (λKK j=>?_);go_simp;(with_reducible refine(qt HQ.o (HT.o _ (zc s.o a)) (HX.o.below a) (HY.o.below a) (H.o k o) (I.o k m) hK J).mono ?_);rintro e wa ⟨rfl,hb⟩;have a:=zc a hb;refine j.out _ _ (Cs.below hHeld hb) (λhHeld=>?_);clear j KK hb;refine tk 9 ?_;refine zT ?_;have t:=za (zc s.o a);have X:=za (HX.o.below a);have Y:=za (HY.o.below a);obtain⟨c0,c1,c2,e0,e1,e2,-⟩:=hHeld;clear a u v y C D E HX HY s;go_wp2_with fail;have a:=(qZ wa.heap.size wa).drew;refine rg (zl c0 (zl c1 (zl c2 (zl e0 (zl e1 (zl e2 zJ)))))) (λhHeld=>?_);refine tk 0 ?_;refine tk 1 ?_;refine tk 2 ?_;refine tk 3 ?_;refine tk 4 ?_;refine tk 5 ?_;refine tk 6 ?_;refine tk 7 ?_;refine rc 8 (λKK j=>?_);go_simp;(with_reducible refine(ui HF.o (gI (HT.o _ (zc t.o a)) (X.o.below a) (Y.o.below a) (H.o k o) (I.o k m) hK J)).mono ?_);rintro e wb ⟨rfl,hb⟩;have a:=zc a hb;refine j.out _ _ (Cs.below hHeld hb) (λhHeld=>?_);clear j KK hb;refine tk 9 ?_;refine zT ?_;have U:=za (zc t.o a);clear hHeld a c0 c1 c2 e0 e1 e2;go_wp2;go_ret;exact⟨rfl,U.o⟩
  ·have hk:k=N:=zb;subst hk;have aa:decide ((k:Int)<(k:Int))=false:=zE;have HF:zd (sV n n'=z):=by
    have h1:=M.o;have h2:=O.o;have h3:=HN.o;have h4:=L.o;rw [sW (by rw [h1,h2];exact h3.symm),h1,h2] at h4;exact h4
   have t:=za hB;have H1:=za (SG n n' wr);rw [HF.o] at H1;clear hB;go_wp2_with fail;refine H1.o.mono ?_;rintro e w1 ⟨rfl,rfl⟩;go_wp2;go_ret;exact⟨rfl,t.o⟩
theorem el {t:Bool}(e:decide (xs=ys)=t)(hT:zu w)(ha:zU w A n c xs)(hb:zU w B n' d ys)(hx:zK K xs)(hy:zK K' ys)(hn:n<=1073741824:=by omega)(g:n'<=1073741824:=by omega)(hK:K<=67108864:=by omega)(a:K'<=67108864:=by omega):
  Calls prog 27 #[.slice A n c,.slice B n' d] w (λe w'=>e=.returned (.bool t)/\Below w.heap.size w w'):=by
 obtain⟨z,hz⟩:∃z,vR xs ys=z:=⟨_,rfl⟩;have H:=za (Oe hz hT ha hb hx hy hn g hK a);have ht:(z==0)=t:=by
  rw [<-e,<-hz];by_cases h:xs=ys
  ·rw [decide_eq_true h,(ZD xs ys).2 h];rfl
  ·rw [decide_eq_false h,beq_eq_false_iff_ne];exact λh9=>h ((ZD xs ys).1 h9)
 clear hz hT ha hb hx hy e;have HE:=za ht;clear ht;go_enter func27,ntmps27;go_wp2_with fail;refine H.o.mono ?_;rintro e w1 ⟨rfl,hb⟩;go_wp2;go_ret;exact⟨by rw [<-HE.o];rfl,hb⟩
end
theorem LI.szq (h:LI K x)(hK:0<K):zm K x:=by
 obtain⟨z,rfl,hz⟩:=h;exact zm.whole hz hK
theorem qp {L:Nat}(hz:zm K x):zm K ((x.den:Nat):Rat):=by
 by_cases hK:K=0
 ·subst hK;exact absurd hz.den (by have:=x.den_nz;unfold Sz;rw [XB];omega)
 ·rw [<-YV];exact zm.whole hz.den zb
theorem qq (hz:zm K x):zm K (x.num:Rat):=by
 by_cases hK:K=0
 ·subst hK;exact absurd hz.den (by have:=x.den_nz;unfold Sz;rw [XB];omega)
 ·exact zm.whole hz.num zb
theorem mh (h:¬x.den=1):x≠0:=λe=>h (by rw [e];rfl)
theorem zh.far3 {g q:Nat}{t:TypeId}{cs:Array Value}(h:zh w g t cs)(a:g≠q)(x y z:Value):zh (((w.setCell ⟨q,0,none⟩ x).setCell ⟨q,1,none⟩ y).setCell ⟨q,2,none⟩ z) g t cs:=zh.far (p:=⟨q,2,none⟩) (zh.far (p:=⟨q,1,none⟩) (zh.far (p:=⟨q,0,none⟩) h a x) a y) a z
theorem aL:((1:Int):Rat)=1:=by decide+kernel
theorem Oj:yi []=1:=rfl
theorem rm {K0:Nat}{xs:List Rat}(hT:zu w)(ha:zU w A n c xs)(hx:zK K0 xs)(hK:LI K (yi xs))(hn:n<=1073741824:=by omega)(h9:K+K0<=33554432:=by omega)(ai:0<K:=by omega):
  Calls prog 80 #[.slice A n c] w (xe w (yi xs)):=by
 have hl:=ha.len;have ab:zd (∀i,i<n->zm K0 (xs.getD i 0)):=λi hi=>hx.at_ zb;have S:zd (∀k,zm K (yi (xs.take k))):=λk=>(RU hK).szq ai;have ae:zd (∀k,k<n->yi (xs.take (k+1))=yi (xs.take k)*(((yi (xs.take k)*xs.getD k 0).den:Nat):Rat)):=λk hk=>RT zb;have ac:zd (yi (xs.take n)=yi xs):=by rw [qU zb];exact rfl
 have HA:=za ha;have HT:=zj w (λw' hb=>hT.on hb);obtain⟨a,y,bz⟩:=zw w 41 #[.bool false,.slice none 0 0,.slice none 0 0];have HB:=za a;have j:=za y;have i0:(0:Int)<=(n:Int):=zb;unfold xe;clear hT ha hx hK hl a y bz;go_enter func80,ntmps80;go_wp2_with fail;generalize w.alloc (.cells #[.bool false,.slice none 0 0,.slice none 0 0] 41)=W1 at*;(with_reducible refine(pW 1 _ (HT.o _ HB.o) zg zg).mono ?_);rintro e w1 ⟨b1,A1,n1,c1,E1,k1,f1,rfl,F,hb⟩;rw [aL,<-Oj] at F;have hB:=zc HB.o hb;have o:=zf hb j.o;obtain⟨a,y,bz⟩:=zw w1 41 #[.bool b1,.slice A1 n1 c1,.slice E1 k1 f1];have hB:=zc hB a;have o:=zf a o;have F:=F.below a;have hlt3:w.heap.size<w1.heap.size:=(zf hb j.o).lt;clear hb a HB j bz;go_wp2_with fail;generalize w1.alloc (.cells #[.bool b1,.slice A1 n1 c1,.slice E1 k1 f1] 41)=W2 at*;generalize w1.heap.size=g3 at*
 go_loopg [12] (n+1) (λg ix wr=>∃(k:Nat) (b:Bool) (B:ze) (m d:Nat) (E:ze) (u v:Nat),k<=n/\n<g+k/\ix=.int .i64 k/\zh wr g3 41 #[.bool b,.slice B m d,.slice E u v]/\zo wr (yi (xs.take k)) b B m d E u v/\zh wr w.heap.size 41 #[.bool false,.slice none 0 0,.slice none 0 0]/\Below w.heap.size w wr)
 case atStart=>exact⟨0,b1,A1,n1,c1,E1,k1,f1,qN _,zb,rfl,y,F,o,hB⟩
 case round=>
  clear F o hB y;obtain⟨k,b,B,m,d,E,u,v,hkn,hg,rfl,z,G,o,hB⟩:=hrel;by_cases hlt:k<n
  ·obtain⟨ad,b1,B1,m1,d1,E1,u1,v1,rfl,-,aj,ak,al,V⟩:=HA.o.get hB hlt;have am:decide ((k:Int)<(n:Int))=true:=decide_eq_true zb;have i1:(0:Int)<=(k:Int):=zb;have i2:(k:Int)<(n:Int):=zb;have H:=za (S.o k);have R:=za (S.o (k+1));have T:=za (ab.o k hlt);have I:=za (ae.o k hlt);obtain⟨l1,J⟩:∃q,yi (xs.take (k+1))=q:=⟨_,rfl⟩;rw [J] at R I;have P:=za J;clear J;generalize yi (xs.take k)=l at*;generalize xs.getD k 0=x at*;obtain⟨a,y,bz⟩:=zw wr 41 #[.bool b1,.slice B1 m1 d1,.slice E1 u1 v1];obtain⟨p0,p1,p2⟩:=y.c3;obtain⟨g0,g1,g2⟩:=(zf a z).c3;have HX:=za (V.below a);have t:=za (G.below a);have s:=za (zf a z);have j:=za (zf a o);have HB:=za (zc hB a);have ht2:=o.lt;have ht3:=z.lt;clear V G z o hB a y bz;go_wp2_with fail;generalize wr.alloc (.cells #[.bool b1,.slice B1 m1 d1,.slice E1 u1 v1] 41)=W4 at*;(with_reducible refine(ia (HT.o _ HB.o) t.o HX.o H.o T.o).mono ?_);rintro e w3 ⟨b3,A3,n3,c3,E3,k3,f3,rfl,U,hb⟩;clear aj ak al p0 p1 p2 g0 g1 g2;have HZ:zd (zm (K+K0) (l*x)):=H.o.mul T.o;have t:=za (t.o.below hb);have s:=za (zf hb s.o);have j:=za (zf hb j.o);have HB:=za (zc HB.o hb);obtain⟨a,y,bz⟩:=zw w3 41 #[.bool b3,.slice A3 n3 c3,.slice E3 k3 f3];obtain⟨p0,p1,p2⟩:=y.c3;have HP:=za (U.below a);have D:=za y;have t:=za (t.o.below a);have s:=za (zf a s.o);have j:=za (zf a j.o);have HB:=za (zc HB.o a);clear U hb a y bz HX;go_wp2_with fail;generalize w3.alloc (.cells #[.bool b3,.slice A3 n3 c3,.slice E3 k3 f3] 41)=W5 at*;generalize w3.heap.size=q6 at*;have C:=za (pT (l*x) b3 A3 n3 c3 E3 k3 f3 W5 (HT.o _ HB.o) HP.o (HZ.o.fit HP.o zb));by_cases hd:(l*x).den=1
   ·have e1:l1=l:=by rw [I.o,hd];exact Rat.mul_one l
    have C:=C.o;rw [decide_eq_true hd] at C;refine C.mono ?_;rintro e w4 ⟨rfl,hb⟩;have t:=za (t.o.below hb);have s:=za (zf hb s.o);have j:=za (zf hb j.o);have HB:=za (zc HB.o hb);clear hb HP D p0 p1 p2 C hd;go_wp2;go_roundg (n - k)
    case measure=>omega
    case rel=>exact⟨k+1,b,B,m,d,E,u,v,zb,zb,by go_num,s.o,by rw [P.o,e1];exact t.o,j.o,HB.o⟩
   ·have e1:l1=l*(((l*x).den:Nat):Rat):=I.o;have Z:=za (nZ hd);have aa:=za (mh hd);have C:=C.o;rw [decide_eq_false hd] at C;refine C.mono ?_;rintro e w4 ⟨rfl,hb⟩;have t:=za (t.o.below hb);have s:=za (zf hb s.o);have j:=za (zf hb j.o);have D:=za (zf hb D.o);have HP:=za (HP.o.below hb);have HB:=za (zc HB.o hb);have ah:zd (zm (K+K0) (((l*x).num:Int):Rat)):=qq HZ.o;have ag:zd (zm (K+K0) (((l*x).den:Nat):Rat)):=qp (L:=0) HZ.o;clear hb p0 p1 p2 C hd;go_upto_region 7 with fail;have GG:=zj w4 (λw' h=>(zl (zf h D.o).c3.1 (zl (zf h D.o).c3.2.1 (zl (zf h D.o).c3.2.2 zJ))));refine pi (λhHeld=>?_);refine tl 0 GG.o ?_;refine tl 3 GG.o ?_;refine ja w4 tU [.old 23 (.agg #[.bool b3,.slice A3 n3 c3,.slice E3 k3 f3]),.val 24 (FI (l*x).num),.val 25 (FQ (((l*x).num:Int):Rat)),.old 26 (.agg #[.bool b3,.slice A3 n3 c3,.slice E3 k3 f3]),.val 27 (oR (((l*x).den:Nat):Rat) true),.val 22 (oR (((l*x).den:Nat):Rat) true),.val 28 (FQ (((l*x).den:Nat):Rat)),.val 29 (FV (.bool true)),.box 7 41 #[.bool false,.slice none 0 0,.slice none 0 0] 9 6,.sto 8 6,.val 8 (FV (.bool true))] hHeld (vy (ws (ws (vy (ws (jj 4 (tY 5 oR.l (tY 5 oR.r (tW (tX (jj 7 jl)))))) ?_)) ?_) ?_)) ?_
    ·intro A w5 hb hk KK Q k;obtain⟨_,r1,b5,A5,n5,c5,E5,k5,f5,rfl,h1⟩:=tu (hk 2 rfl) rfl;have r2:A.tmps.getD 26 undef=.agg #[.bool b3,.slice A3 n3 c3,.slice E3 k3 f3]:=hk 3 rfl;have h2:=HP.o.below hb;go_simp;(with_reducible refine(UZ (((l*x).num:Int):Rat) (l*x) b5 A5 n5 c5 E5 k5 f5 b3 A3 n3 c3 E3 k3 f3 _ (HT.o _ (zc HB.o hb)) h1 h2 (ah.o.fit h1 zb) (HZ.o.fit h2 zb) aa.o).mono ?_);rintro e w6 ⟨b6,A6,n6,c6,E6,k6,f6,rfl,h6,hb⟩;rw [Z.o] at h6;exact k _ _ hb ⟨b6,A6,n6,c6,E6,k6,f6,rfl,h6⟩
    ·intro A w5 hb hk KK Q k;obtain⟨_,r1,b5,A5,n5,c5,rfl,h1⟩:=tu (hk 1 rfl) rfl;go_simp;(with_reducible refine(Pm (l*x).num b5 A5 n5 c5 _ (HT.o _ (zc HB.o hb)) h1 (yx (K:=K+K0) (za HZ.o.num) h1 zb)).mono ?_);rintro e w6 ⟨b6,A6,n6,c6,E6,k6,f6,rfl,h6,hb⟩;exact k _ _ hb ⟨b6,A6,n6,c6,E6,k6,f6,rfl,h6⟩
    ·intro A w5 hb hk KK Q k;have r1:A.tmps.getD 23 undef=.agg #[.bool b3,.slice A3 n3 c3,.slice E3 k3 f3]:=hk 0 rfl;have h2:=HP.o.below hb;go_simp;(with_reducible refine(U2 (l*x) b3 A3 n3 c3 E3 k3 f3 _ (HT.o _ (zc HB.o hb)) h2 (HZ.o.fit h2 zb)).mono ?_);rintro e w6 ⟨b6,A6,n6,c6,rfl,h6,hb⟩;exact k _ _ hb ⟨b6,A6,n6,c6,rfl,h6⟩
    rintro vs ad w8 hb ⟨-,-,-,-,-,-,⟨b6,A6,n6,c6,E6,k6,f6,e6,h6⟩,-,⟨l7,k7⟩,-⟩ -;rw [e6] at k7;simp only [uT,vW,List.foldl,zG];generalize ad 8=q7 at*;have t:=za (t.o.below hb);have s:=za (zf hb s.o);have j:=za (zf hb j.o);have HB:=za (zc HB.o hb);have HR:=za h6;have O:zd (zh w8 q7 41 #[.bool b6,.slice A6 n6 c6,.slice E6 k6 f6]):=k7;clear hb e6 h6 k7 l7 GG hHeld HP D;obtain⟨p0,p1,p2⟩:=O.o.c3;obtain⟨g0,g1,g2⟩:=s.o.c3;go_wp2_with fail;(with_reducible refine(ia (HT.o _ HB.o) t.o HR.o H.o ag.o).mono ?_);rintro e w9 ⟨b8,A8,n8,c8,E8,k8,f8,rfl,M,hb⟩;clear p0 p1 p2 g0 g1 g2;rw [<-e1] at M;have z:=zf hb s.o;have o:=zf hb j.o;have hB:=zc HB.o hb;obtain⟨an,aq,ao,ar,ap,au⟩:=yh z (.bool b8) (.slice A8 n8 c8);have af:=za (iE M z (yf.s3 _ _ _ _ _ _ _) (vw _ _ (.bool b8) (.slice A8 n8 c8) (.slice E8 k8 f8)));have Y:=za (yg z (.bool b8) (.slice A8 n8 c8) (.slice E8 k8 f8));have N:=za (zh.far3 o (show w.heap.size≠g3 by omega) (.bool b8) (.slice A8 n8 c8) (.slice E8 k8 f8));have X:=za (uI (.bool b8) (.slice A8 n8 c8) (.slice E8 k8 f8) (show w.heap.size<=g3 by omega) hB);clear hb M z o hB HB j s O t HR;go_wp2;go_roundg (n - k)
    case measure=>omega
    case rel=>exact⟨k+1,b8,A8,n8,c8,E8,k8,f8,zb,zb,by go_num,Y.o,by rw [P.o];exact af.o,N.o,X.o⟩
  ·have hk:k=n:=zb;subst hk;have am:decide ((k:Int)<(k:Int))=false:=zE;rw [ac.o] at G;obtain⟨g0,g1,g2⟩:=z.c3;obtain⟨an,aq,ao,ar,ap,au⟩:=yh o (.bool b) (.slice B m d);obtain⟨r0,r1,r2⟩:=(yg o (.bool b) (.slice B m d) (.slice E u v)).c3;have HG:=za (wZ G o hB (qY _));clear G z o hB;go_wp2;refine bodyPost_ret (v:=.agg #[.bool b,.slice B m d,.slice E u v]) (by simp [results,results80,go_sem,r0,r1,r2]) rfl ?_;exact HG.o
section
variable {w:World}{g:Nat}{st:wn}{rd:Rat}{A:ze}{n cA:Nat}{B:ze}{k cB:Nat}{x0 x1 x2 y0 y1 y2:Value}
theorem z6.cells (h:z6 w g st rd A n cA B k cB x0 x1 x2 y0 y1 y2):w.cell? ⟨g,0,none⟩=some (.slice A n cA)/\w.cell? ⟨g,1,none⟩=some (.slice B k cB)/\w.cell? ⟨g,2,none⟩=some x0/\w.cell? ⟨g,3,none⟩=some x1/\w.cell? ⟨g,4,none⟩=some x2/\w.cell? ⟨g,5,none⟩=some y0/\w.cell? ⟨g,6,none⟩=some y1/\w.cell? ⟨g,7,none⟩=some y2:=
 ⟨h.blk.cell 0,h.blk.cell 1,h.blk.cell 2,h.blk.cell 3,h.blk.cell 4,h.blk.cell 5,h.blk.cell 6,h.blk.cell 7⟩
theorem T8 {dr dy:Nat}{R Y:ze}{row a:List Rat}(hT:zu w)(hE:z6 w g st rd A n cA B k cB x0 x1 x2 y0 y1 y2)(hr:zU w R m dr row)(hy:zU w Y m dy a)(hc:c<m)(zr:zK K row)(zy:zK K a)(zp:zm K st.p)(hp:st.p≠0)(hm:m<=1073741824:=by omega)(hK:4*K+1<=33554432:=by omega):
  Calls prog 136 #[.pointer (some ⟨g,0,none⟩),.slice R m dr,.slice Y m dy,.int .i64 (c:Int)] w (ku w m (tL st.p row a c)):=by
 obtain⟨b0,A0,n0,c0,E0,k0,f0,rfl,rfl,rfl,I⟩:=hE.lead;have HP:=zj w (λw' hb=>I.below hb);have HC:=zj w (λw' hb=>(hE.below hb).cells);have HT:=zj w (λw' hb=>hT.on hb);have HR:=zj w (λw' hb=>hr.keep hb);have HY:=zj w (λw' hb=>hy.keep hb);have s:=za (zy.at_ (k:=c) (by rw [hy.len];exact hc));have t:=za (zr.at_ (k:=c) (by rw [hr.len];exact hc));have u:=za zr;have z:=za zy;have y:=za zp;have S:=za hp;obtain⟨ady,b1,B1,m1,d1,E1,u1,v1,rfl,-,h0,h1,h2,N⟩:=hy.get (qZ _ _) hc;obtain⟨adr,b2,B2,m2,d2,E2,u2,v2,rfl,-,h3,h4,h5,J⟩:=hr.get (qZ _ _) hc;have U:=zj w (λw' hb=>N.below hb);have v:=zj w (λw' hb=>J.below hb);have i1:(0:Int)<=(c:Int):=zb;have i2:(c:Int)<(m:Int):=zb;have i3:c<m:=hc;have HQ:zd (tL st.p row a c=y6 st.p⁻¹ (kB (y6 (a.getD c 0) row) (-row.getD c 0) a)):=rfl;rw [HQ.o];generalize a.getD c 0=yc at*;generalize row.getD c 0=O at*;unfold ku;clear hT hE hr hy zr zy zp hp I N J hc HQ;go_enter func136,ntmps136;go_wp2_with fail;have HB:=za ((qZ w.heap.size w).drew);refine rg (zl h0 (zl h1 (zl h2 (zl h3 (zl h4 (zl h5 zJ)))))) (λhHeld=>?_);clear h0 h1 h2 h3 h4 h5;generalize w.drew=D at*;refine tk 0 ?_;refine tk 1 ?_;refine tk 2 ?_;refine tk 3 ?_;refine tk 4 ?_;refine tk 6 ?_;refine tk 7 ?_;refine tk 8 ?_;refine tk 9 ?_;refine tk 11 ?_;refine rc 5 (λKK d=>?_);go_simp;(with_reducible refine(tG (HT.o _ HB.o) (U.o _ HB.o) (HR.o _ HB.o) s.o u.o).mono ?_);rintro eo w1 ⟨g1,rfl,X,F,hb⟩;refine d.out _ _ (Cs.below hHeld hb) (λhHeld=>?_);clear d KK;have HB:=za (zc HB.o hb);have j:=za (xw F);clear hb F X;refine rc 10 (λKK d=>?_);go_simp;(with_reducible refine(dF O b2 B2 m2 d2 E2 u2 v2 _ (HT.o _ HB.o) (v.o _ HB.o) (t.o.fit (v.o _ HB.o) zb)).mono ?_);rintro eo w2 ⟨b3,A3,n3,c3,E3,k3,f3,rfl,L,hb⟩;refine d.out _ _ (Cs.below hHeld hb) (λhHeld=>?_);clear d KK;have HB:=za (zc HB.o hb);have j:=za (j.o.keep hb);have HN:=za L;clear hb L;refine rc 12 (λKK d=>?_);go_simp;(with_reducible refine(pL (HT.o _ HB.o) j.o HN.o (HY.o _ HB.o) (zK.scale s.o u.o) t.o.neg z.o).mono ?_);rintro eo w3 ⟨g4,rfl,Z,G,hb⟩;refine d.out _ _ (Cs.below hHeld hb) (λhHeld=>?_);clear d KK;have HB:=za (zc HB.o hb);have i:=za (xw G);have V:zd (zK ((K+K)+(K+K)+1) (kB (y6 yc row) (-O) a)):=zK.addT (zK.scale s.o u.o) t.o.neg z.o;clear hb G Z j HN;refine tk 13 ?_;refine tk 14 ?_;refine tk 15 ?_;refine tk 16 ?_;refine tk 17 ?_;refine zT ?_;clear hHeld;obtain⟨-,-,p2,p3,p4,-⟩:=HC.o _ HB.o;go_wp2_with fail;clear p2 p3 p4;(with_reducible refine(dE st.p b0 A0 n0 c0 E0 k0 f0 _ (HT.o _ HB.o) (HP.o _ HB.o) (y.o.fit (HP.o _ HB.o) zb) S.o).mono ?_);rintro eo w5 ⟨b5,A5,n5,c5,E5,k5,f5,rfl,M,hb⟩;have HB:=za (zc HB.o hb);have i:=za (i.o.keep hb);obtain⟨o,C,-⟩:=zw w5 41 #[.bool b5,.slice A5 n5 c5,.slice E5 k5 f5];obtain⟨p0,p1,p2⟩:=C.c3;have HI:=za (M.below o);have HB:=za (zc HB.o o);have i:=za (i.o.keep o);clear hb M o C;go_wp2_with fail;clear p0 p1 p2;generalize w5.alloc (.cells #[.bool b5,.slice A5 n5 c5,.slice E5 k5 f5] 41)=W6 at*;(with_reducible refine(tG (HT.o _ HB.o) HI.o i.o y.o.inv V.o).mono ?_);rintro eo w7 ⟨g7,rfl,E,H,hb⟩;have P:=za (zc HB.o hb);have Q:w.heap.size<=g7:=qL HB.o.size E;have T:=za H;clear hb H E HB i HI;go_wp2;go_ret;exact⟨g7,rfl,Q,T.o,P.o⟩
end
section
variable {w:World}
theorem ro:∀(args:Array Value) (w':World),Sem.run prog (callFunc 135 args) w'=.ok (.enter 135 args) w':=Go.Proofs.enters_of func135 zP rfl
theorem o7 {d:Nat}{V:ze}{L:List Rat}(hT:zu w)(hk:zh w gc 3 #[.int .i64 (c:Int)])(hv:zU w V m d L)(hc:c<m)(hz:zK K L)(hK:K<=67108864:=by omega):
  Calls prog 135 #[.slice V m d,.pointer (some ⟨gc,0,none⟩)] w (λe w'=>e=.returned (.bool (!decide (L.getD c 0=0)))/\Below w.heap.size w w'):=by
 have g0:=hk.c1;have HS:=za (hz.at_ (k:=c) (by rw [hv.len];exact hc));obtain⟨ad,b1,B1,m1,d1,E1,u1,v1,rfl,-,h0,h1,h2,hx⟩:=hv.get (qZ _ _) hc;have i1:(0:Int)<=(c:Int):=zb;have i2:(c:Int)<(m:Int):=zb;have i3:c<m:=hc;generalize L.getD c 0=x at*;obtain⟨t,ht⟩:∃t,decide (x=0)=t:=⟨_,rfl⟩;rw [ht];have a:=za (qu ht hT hx HS.o hK);clear hk hv hz hx hc hT ht;go_enter func135,ntmps135;go_wp2_with fail;clear h0 h1 h2 g0;refine a.o.mono ?_;rintro eo w1 ⟨rfl,hb⟩;have HB:=za hb;clear hb a;go_wp2;go_ret;exact⟨rfl,HB.o⟩
def sv (c:Nat)(Ls:List (List Rat)):Int:=if Ls.findIdx (λrow=> !decide (row.getD c 0=0))<Ls.length then((Ls.findIdx (λrow=> !decide (row.getD c 0=0)):Nat):Int) else -1
theorem nB {k:Nat}(hk:k<Ls.length)(h0:∀j,j<k->(Ls.getD j []).getD c 0=0)(h1:(Ls.getD k []).getD c 0≠0):sv c Ls=(k:Int):=by
 have e:Ls.findIdx (λrow=> !decide (row.getD c 0=0))=k:=by
  rw [List.findIdx_eq hk];have hg:∀j (hj:j<Ls.length),Ls.getD j []=Ls[j]:=λj hj=>by rw [qQ,qX hj];rfl
  refine⟨by rw [hg k hk] at h1;simpa using h1,λj hj=>?_⟩;have:=h0 j hj;rw [hg j zb] at this;simpa using this
 unfold sv;rw [e,if_pos hk]
theorem PX (h:(!decide (x=0))=true):x≠0:=by simpa using h
theorem PO (h0:∀j,j<Ls.length->(Ls.getD j []).getD c 0=0):sv c Ls= -1:=by
 unfold sv;rw [if_neg];intro h;have h1:=List.findIdx_getElem (p:=λrow:List Rat=> !decide (row.getD c 0=0)) (xs:=Ls) (w:=h);have h2:=h0 _ h;rw [qQ (l:=Ls),qX h] at h2;exact PX h1 h2
theorem Xm {z q:Nat}{Q:ze}{M:List (List Rat)}(hT:zu w)(h:y5 (VZ z) w Q n M)(hk:zh w gc 3 #[.int .i64 (c:Int)])(hc:c<m)(hd:∀L ∈ M,L.length=m)(hz:zV K M)(hn:n<=1048576)(hK:K<=67108864:=by omega):
  Calls prog 115 #[.slice Q n q,.func (.func 135) #[] #[.pointer (some ⟨gc,0,none⟩)]] w (λe w'=>e=.returned (.int .i64 (sv c M))/\Below w.heap.size w w'):=by
 have hl:=h.len;have HR:=za h;have HT:=zj w (λw' hb=>hT.on hb);have HK:=zj w (λw' hb=>zf hb hk);have HD:zd (∀k,k<n->(M.getD k []).length=m):=λk hk=>hd _ (QJ (vY zb));have HZ:zd (∀k,k<n->zK K (M.getD k [])):=λk hk=>hz.row zb;have HI:zd (∀k,k<n->(∀j,j<k->(M.getD j []).getD c 0=0)->(M.getD k []).getD c 0≠0->sv c M=(k:Int)):=λk hk=>nB zb;have HN:zd ((∀j,j<n->(M.getD j []).getD c 0=0)->sv c M= -1):=λh0=>PO (by rw [hl];exact h0);have hEn:=ro;have hB:=qZ w.heap.size w;have i0:(0:Int)<=(n:Int):=zb;have HC:=za hc;obtain⟨zi,y⟩:∃zi,sv c M=zi:=⟨_,rfl⟩;rw [y] at HI HN⊢;clear h hk hl hd hz hT hc y;go_enter func115,ntmps115;go_wp2_with fail
 go_loopg [8] (n+1) (λg ix wr=>∃(k:Nat),k<=n/\n<g+k/\ix=.int .i64 k/\zd (∀j,j<k->(M.getD j []).getD c 0=0)/\Below w.heap.size w wr)
 case atStart=>exact⟨0,qN _,zb,rfl,λj hj=>(by cases hj),hB⟩
 case round=>
  clear hB;obtain⟨k,hkn,hg,rfl,u,hB⟩:=hrel;by_cases hlt:k<n
  ·have D:decide ((k:Int)<(n:Int))=true:=decide_eq_true zb;have i1:(0:Int)<=(k:Int):=zb;have i2:(k:Int)<(n:Int):=zb;obtain⟨ad,B,d,rfl,-,v,hv⟩:=HR.o.get (wW z) hB hlt (HD.o k hlt);have C:=za (HZ.o k hlt);have s:=za (HI.o k hlt u.o);have HB:=za hB;have t:zd ((M.getD k []).getD c 0=0->∀j,j<k+1->(M.getD j []).getD c 0=0):=λe j hj=>by
    rcases xY j k with a|a
    ·exact u.o j a
    ·rw [show j=k by omega];exact e
   have i:=za (o7 (HT.o _ hB) (HK.o _ hB) hv.1 HC.o C.o hK);clear hB hv;by_cases h0:(M.getD k []).getD c 0=0
   ·have A:=za (t.o h0);have i:=i.o;rw [h0,show(!decide ((0:Rat)=0))=false from rfl] at i;have i:=za i;clear h0 t s;go_wp2_with fail;refine i.o.mono ?_;rintro eo w3 ⟨rfl,hb⟩;have o:=za (zc HB.o hb);clear hb v;go_wp2;go_roundg (n - k)
    case measure=>omega
    case rel=>exact⟨k+1,zb,zb,by go_num,A.o,o.o⟩
   ·have HE:=za (s.o h0);have i:=i.o;rw [decide_eq_false h0,show(!false)=true from rfl] at i;have i:=za i;clear h0 t s;go_wp2_with fail;refine i.o.mono ?_;rintro eo w3 ⟨rfl,hb⟩;have o:=za (zc HB.o hb);clear hb v;go_wp2;go_ret;exact⟨by rw [HE.o];rfl,o.o⟩
  ·have E:k=n:=zb;subst E;have D:decide ((k:Int)<(k:Int))=false:=zE;have HE:=za (HN.o u.o);have o:=za hB;clear hB;go_wp2;go_ret;exact⟨by rw [HE.o];rfl,o.o⟩
end
theorem y5.drop_ {α:Type}{R:RP α}{r:Nat}{Ls:List (List α)}(h:y5 R w A n Ls)(hr:r<=n):y5 R w (Option.map (λx=>x.add r) A) (n - r) (Ls.drop r):=by
 refine⟨by rw [XX,h.len],λi L hi=>?_⟩;rw [YP] at hi;obtain⟨ad,B,d,rfl,h1,h2,h3⟩:=h.num _ L hi;exact⟨_,B,d,rfl,by rw [y8];exact h1,by rw [gU];exact h2,h3⟩
def vd (r c:Nat)(p:Rat)(S:List (List Rat))(i:Nat):List (List Rat):=S.mapIdx λj row=>if j=r\/i<=j then row else tL p row (S.getD r []) c
theorem jw (r c:Nat)(p:Rat)(S:List (List Rat))(i:Nat):(vd r c p S i).length=S.length:=by unfold vd;rw [List.length_mapIdx]
theorem jv {r:Nat}(hj:j<S.length):(vd r c p S i)[j]?=some (if j=r\/i<=j then S.getD j [] else tL p (S.getD j []) (S.getD r []) c):=by
 unfold vd;rw [List.getElem?_mapIdx,qX hj];show some (if j=r\/i<=j then _ else _)=_;rw [show S.getD j []=S[j] by rw [qQ,qX hj];rfl]
theorem Wf {r:Nat}(hj:j<S.length):(vd r c p S i).getD j []=if j=r\/i<=j then S.getD j [] else tL p (S.getD j []) (S.getD r []) c:=by
 rw [qQ,jv hj];rfl
theorem RG (r c:Nat)(p:Rat)(S:List (List Rat)):vd r c p S 0=S:=by
 apply List.ext_getElem?;intro j;rcases xY j S.length with h|h
 ·rw [jv h,if_pos (Or.inr (qN _)),vY h]
 ·rw [QG (by rw [jw];exact h),QG h]
theorem RD {r:Nat}:vd r c p S (r+1)=vd r c p S r:=by
 apply List.ext_getElem?;intro j;rcases xY j S.length with h|h
 ·rw [jv h,jv h];by_cases e:j=r
  ·rw [if_pos (Or.inl e),if_pos (Or.inl e)]
  ·by_cases e2:r<=j
   ·rw [if_pos (Or.inr zb),if_pos (Or.inr e2)]
   ·rw [if_neg zb,if_neg zb]
 ·rw [QG (by rw [jw];exact h),QG (by rw [jw];exact h)]
theorem RE {r:Nat}(hi:i<S.length)(hne:i≠r):(vd r c p S i).set i (tL p (S.getD i []) (S.getD r []) c)=vd r c p S (i+1):=by
 apply List.ext_getElem?;intro j;rcases xY j S.length with h|h
 ·rw [jv h];by_cases e:i=j
  ·subst e;rw [XR (by rw [jw];exact h),if_neg zb]
  ·rw [XL e,jv h];by_cases e1:j=r
   ·rw [if_pos (Or.inl e1),if_pos (Or.inl e1)]
   ·by_cases e2:i<=j
    ·rw [if_pos (Or.inr e2),if_pos (Or.inr zb)]
    ·rw [if_neg zb,if_neg zb]
 ·rw [QG (by rw [xB,jw];exact h),QG (by rw [jw];exact h)]
theorem Qx {r:Nat}(hn:S.length=n):vd r c p S n=tS r c p S:=by
 subst hn;apply List.ext_getElem?;intro j;rcases xY j S.length with h|h
 ·rw [jv h];unfold tS;rw [List.getElem?_mapIdx,qX h];show _=some (if j=r then _ else _);rw [show S.getD j []=S[j] by rw [qQ,qX h];rfl];by_cases e:j=r
  ·rw [if_pos (Or.inl e),if_pos e]
  ·rw [if_neg zb,if_neg e]
 ·rw [QG (by rw [jw];exact h),QG (by unfold tS;rw [List.length_mapIdx];exact h)]
theorem Vg {st:wn}:sv c (st.S.drop st.ld.length)=if wm c st<st.S.length - st.ld.length then((wm c st:Nat):Int) else -1:=by
 unfold sv wm;rw [XX]
theorem nX {st:wn}(h:¬wm c st<st.S.length - st.ld.length):p9 c st=st:=by unfold p9;rw [if_neg h]
theorem qc {st:wn}(h:wm c st<st.S.length - st.ld.length):p9 c st=⟨tS st.ld.length c st.p (oc c st),st.ld++[c],zv (oc c st) st.ld.length c⟩:=by unfold p9;rw [if_pos h]
theorem wh.msz (hd:zM S n m)(hi:∃a,su n a0 a/\x6 n m c a (zv S) ld p)(hn:n<=64)(h0:∀i,i<n->∀j,j<m->LI K (a0 i j)):zV (67+65*K) S:=λL hL x hx=>by
 obtain⟨a,hs,hi⟩:=hi;obtain⟨i,d,rfl⟩:=List.mem_iff_getElem.1 hL;obtain⟨j,g,rfl⟩:=List.mem_iff_getElem.1 hx;have h1:=hd.rows;have h2:=hd.cols _ hL;have:=(hi.sz hn (hs.li h0) (i:=i) (j:=j) zb zb).szq zb;have e:zv S i j=S[i][j]:=by
  unfold zv;rw [qQ (l:=S),qX d];show S[i].getD j 0=_;rw [qQ,qX g];rfl
 rw [e] at this;exact this
theorem wh.psz (hi:∃a,su n a0 a/\x6 n m c a (zv S) ld p)(hn:n<=64)(h0:∀i,i<n->∀j,j<m->LI K (a0 i j)):zm (67+65*K) p/\p≠0:=by
 obtain⟨a,hs,hi⟩:=hi;exact⟨(hi.lead_sz' hn (hs.li h0)).szq zb,hi.ne⟩
section
variable {P:Program}{ops:Array Oper}{Q:Exit->Act->World->Prop}{S:World->Prop}{fuel:Nat}{l:Array Bool}{a:Act}{w:World}
theorem Tl (i j k:Nat){o p q:Oper}(hk:∀K':Act->World->Prop,Shut (∀(a:Act) (w:World),S w->(S w->wpAnyH P .any ops (NoPanic Q) S fuel (l.setIfInBounds i true) a w)->K' a w)->Oper.wp P o a w K' (NoPanic Q))(hj:∀K':Act->World->Prop,Shut (∀(a:Act) (w:World),S w->(S w->wpAnyH P .any ops (NoPanic Q) S fuel (l.setIfInBounds j true) a w)->K' a w)->Oper.wp P p a w K' (NoPanic Q))(hq:∀K':Act->World->Prop,Shut (∀(a:Act) (w:World),S w->(S w->wpAnyH P .any ops (NoPanic Q) S fuel (l.setIfInBounds k true) a w)->K' a w)->Oper.wp P q a w K' (NoPanic Q))(h1:ops[i]?=some o:=by simp only [qT,qA,qM];rfl)(g:ops[j]?=some p:=by simp only [qT,qA,qM];rfl)(c:ops[k]?=some q:=by simp only [qT,qA,qM];rfl)(h2:Region.ready .any ops l=[i,j,k]:=by kernel_rfl)(h3:Region.wanted o (yielded ops a.tmps)=true:=by rfl)(m:Region.wanted p (yielded ops a.tmps)=true:=by rfl)(d:Region.wanted q (yielded ops a.tmps)=true:=by rfl):wpAnyH P .any ops (NoPanic Q) S (fuel+1) l a w:=
 wpAnyH_ready h2 zE (AllReadyH.cons h1 (λK' hK=>by rw [if_pos h3];exact hk K' hK) (AllReadyH.cons g (λK' hK=>by rw [if_pos m];exact hj K' hK) (AllReadyH.cons c (λK' hK=>by rw [if_pos d];exact hq K' hK) AllReadyH.nil)))
end
