/- What this claim leans on. -/
import Derived.Test.YtdfdjfiognhbgaaGreatDoorDECut
set_option linter.unusedVariables false
set_option linter.unusedSimpArgs false
namespace Go.Proofs.YtdfdjfiognhbgaaGreatDoor
open Go Go.RowKit Go.Proofs.Tryz
set_option maxHeartbeats 16000000
set_option maxRecDepth 100000
variable {X:List (List Rat)}{m n:Nat}{M:Nat->Nat->Rat}
def ub (m:Nat)(MM:List (List Rat)):Rat:=if (xd m MM).ld.length<m then 0 else(xd m MM).p / vq MM
theorem Vw:∀{M:List (List Rat)} {r:Rat},r≠0->M.foldl (λr row=>r*yi row) r≠0
 |[],_,h=>h
 |L::M,r,h=>by
   rw [List.foldl_cons];refine Vw λe=>?_;rcases Rat.mul_eq_zero.1 e with e|e
   ·exact h e
   ·exact WR L e
theorem Wh (M:List (List Rat)):vq M≠0:=Vw (by decide+kernel)
section
variable {w:World}{A:ze}{n c m K K0:Nat}{MM:List (List Rat)}
theorem Sj (hnm:n≠m):
  Calls prog 9 #[.agg #[.slice A n c,.int .i64 (m:Int)]] w (λeo w'=>eo=.returned (.tuple #[.agg #[.bool false,.slice none 0 0,.slice none 0 0],.bool false])/\Below w.heap.size w w'):=by
 obtain⟨i,j,k,-⟩:=zX w 28 41 #[.slice A n c,.int .i64 (m:Int)] #[.bool false,.slice none 0 0,.slice none 0 0];obtain⟨p0,p1⟩:=j.c2;have HB:=za i;have a:=za k;have d1:((n:Int) !=(m:Int))=true:=by rw [bne_iff_ne];omega
 clear i j k;go_enter func9,ntmps9;go_wp2_with fail;generalize (w.alloc (.cells #[.slice A n c,.int .i64 (m:Int)] 28)).alloc (.cells #[.bool false,.slice none 0 0,.slice none 0 0] 41)=W1 at*;have g:=(qZ W1.heap.size W1).drew;refine rg (zl p0 (zl p1 zJ)) (λhHeld=>?_);have HB:=za (zc HB.o g);have a:=za (zf g a.o);clear p0 p1 g;generalize W1.drew=D at*;refine tk 0 ?_;refine tk 2 ?_;refine rc 1 (λKK d=>?_);go_simp;refine(oE A n c (m:Int) _).mono ?_;rintro eo w2 ⟨rfl,hb⟩;refine d.out _ _ (Cs.below hHeld hb) (λhHeld=>?_);have HB:=za (zc HB.o hb);have a:=za (zf hb a.o);clear d KK hb;refine rc 3 (λKK d=>?_);go_simp;refine(uP A n c (m:Int) _).mono ?_;rintro eo w3 ⟨rfl,hb⟩;refine d.out _ _ (Cs.below hHeld hb) (λhHeld=>?_);have HB:=za (zc HB.o hb);have a:=za (zf hb a.o);clear d KK hb;refine tk 4 ?_;refine zT ?_;clear hHeld;obtain⟨sc0,sf0,sc1,sf1,sc2,sf2⟩:=yh a.o (.bool false) (.slice none 0 0);obtain⟨r0,r1,r2⟩:=(yg a.o (.bool false) (.slice none 0 0) (.slice none 0 0)).c3;have o:=za (uI (.bool false) (.slice none 0 0) (.slice none 0 0) (show w.heap.size<=w.heap.size+1 by omega) HB.o);clear HB a;go_wp2;refine bodyPost_ret (v:=.tuple #[.agg #[.bool false,.slice none 0 0,.slice none 0 0],.bool false]) (by simp [results,results9,go_sem,r0,r1,r2]) rfl ?_;exact⟨rfl,o.o⟩
theorem aY (hT:zu w)(h:yF w A n c m MM)(F:n=m)(z:zV K0 MM)(hW:wN K MM)(hK:260*K+269<=33554432:=by omega)(af:K+K0<=33554432:=by omega)(ag:0<K:=by omega):
  Calls prog 9 #[.agg #[.slice A n c,.int .i64 (m:Int)]] w (vU w (ub m MM) true):=by
 obtain⟨hn,hm⟩:=And.intro h.hn h.hm;have HM:=zj w (λw' hb=>h.keep hb);have HT:=zj w (λw' hb=>hT.on hb);have HZ:=za z;have HW:=za hW;have HD:=za h.dims;have aj:=lQ h.dims;obtain⟨s1,s2,s3,s4⟩:=dG h.dims hn hW;have L:=za s2;have ad:=za s3;have ac:zd (zm (1+64*K) (vq MM)):=by
  have:=aA hW MM.length (qY _);rw [List.take_length] at this;exact(this.up (YY (qW _ (by rw [h.dims.rows];omega)) _)).szq zb
 have ab:=za (Wh MM);obtain⟨M,C,N,-⟩:=zX w 28 41 #[.slice A n c,.int .i64 (m:Int)] #[.bool false,.slice none 0 0,.slice none 0 0];obtain⟨p0,p1⟩:=C.c2;have HB:=za M;have i:=za C;have a:=za N;have G:tO m (x4 MM)=xd m MM:=rfl;have u:zd (ub m MM=if (xd m MM).ld.length<m then 0 else(xd m MM).p / vq MM):=rfl;obtain⟨st,s⟩:∃st,xd m MM=st:=⟨_,rfl⟩;rw [s] at G L ad u;have ae:=za G;have d1:((n:Int) !=(m:Int))=false:=by rw [F];simp
 have I:=za F;clear h hT z hW M C N G s aj s1 s2 s3 s4 F;go_enter func9,ntmps9;go_wp2_with fail;generalize (w.alloc (.cells #[.slice A n c,.int .i64 (m:Int)] 28)).alloc (.cells #[.bool false,.slice none 0 0,.slice none 0 0] 41)=W1 at*;have g:=(qZ W1.heap.size W1).drew;refine rg (zl p0 (zl p1 zJ)) (λhHeld=>?_);have HB:=za (zc HB.o g);have i:=za (zf g i.o);have a:=za (zf g a.o);clear p0 p1 g;generalize W1.drew=D at*;refine tk 0 ?_;refine tk 2 ?_;refine rc 1 (λKK d=>?_);go_simp;refine(oE A n c (m:Int) _).mono ?_;rintro eo w2 ⟨rfl,hb⟩;refine d.out _ _ (Cs.below hHeld hb) (λhHeld=>?_);have HB:=za (zc HB.o hb);have i:=za (zf hb i.o);have a:=za (zf hb a.o);clear d KK hb;refine rc 3 (λKK d=>?_);go_simp;refine(uP A n c (m:Int) _).mono ?_;rintro eo w3 ⟨rfl,hb⟩;refine d.out _ _ (Cs.below hHeld hb) (λhHeld=>?_);have HB:=za (zc HB.o hb);have i:=za (zf hb i.o);have a:=za (zf hb a.o);clear d KK hb;refine tk 4 ?_;refine zT ?_;clear hHeld;go_upto_region 3 with fail;have g:=(qZ w3.heap.size w3).drew;obtain⟨p0,p1⟩:=i.o.c2;refine rg (zl p0 (zl p1 zJ)) (λhHeld=>?_);have HB:=za (zc HB.o g);have i:=za (zf g i.o);have a:=za (zf g a.o);clear p0 p1 g;generalize w3.drew=D3 at*;refine tk 0 ?_;refine tk 2 ?_;refine rc 1 (λKK d=>?_);go_simp;refine(uP A n c (m:Int) _).mono ?_;rintro eo w2 ⟨rfl,hb⟩;refine d.out _ _ (Cs.below hHeld hb) (λhHeld=>?_);have HB:=za (zc HB.o hb);have i:=za (zf hb i.o);have a:=za (zf hb a.o);clear d KK hb;refine rc 3 (λKK d=>?_);go_simp;(with_reducible refine(Y1 (HT.o _ HB.o) (HM.o _ HB.o) HZ.o zb).mono ?_);rintro eo w3 ⟨g3,rfl,ah,O,hb⟩;refine d.out _ _ (Cs.below hHeld hb) (λhHeld=>?_);have HB:=za (zc HB.o hb);have i:=za (zf hb i.o);have a:=za (zf hb a.o);have HR:=za O.rows;clear d KK hb ah O;refine rc 4 (λKK d=>?_);go_simp;(with_reducible refine(bP (HT.o _ HB.o) HR.o HD.o HZ.o HW.o hn zb (qY _) hK af ag).mono ?_);rintro eo w4 ⟨g4,rfl,ai,⟨A4,cA4,B4,k4,cB4,z0,z1,z2,u0,u1,u2,E⟩,hb⟩;rw [ae.o] at E;refine d.out _ _ (Cs.below hHeld hb) (λhHeld=>?_);have HB:=za (zc HB.o hb);have i:=za (zf hb i.o);have a:=za (zf hb a.o);have j:=za E;clear d KK hb ai E HR;refine tk 5 ?_;refine zT ?_;clear hHeld;go_upto_region 4 with fail;have g:=(qZ w4.heap.size w4).drew;obtain⟨p0,p1⟩:=i.o.c2;obtain⟨-,p2,-⟩:=j.o.cells;refine rg (zl p0 (zl p1 (zl p2 zJ))) (λhHeld=>?_);have HB:=za (zc HB.o g);have j:=za (j.o.below g);have a:=za (zf g a.o);clear p0 p1 p2 g i;generalize w4.drew=D4 at*;refine tk 0 ?_;refine tk 1 ?_;refine tk 2 ?_;refine tk 3 ?_;refine tk 4 ?_;refine tk 5 ?_;refine rc 6 (λKK d=>?_);go_simp;refine(oE A n c (m:Int) _).mono ?_;rintro eo w5 ⟨rfl,hb⟩;refine d.out _ _ (Cs.below hHeld hb) (λhHeld=>?_);have HB:=za (zc HB.o hb);have j:=za (j.o.below hb);have a:=za (zf hb a.o);clear d KK hb;refine tk 7 ?_;refine zT ?_;clear hHeld;have H:=za j.o.hk;by_cases hlt:k4<n
 ·have d2:decide ((k4:Int)<(n:Int))=true:=decide_eq_true zb;have o:ub m MM=0:=by rw [u.o,H.o,if_pos (by have:=I.o;omega)]
  have t:=za o;obtain⟨S,V,T,X,U,Y⟩:=yh a.o (.bool false) (.slice none 0 0);obtain⟨r0,r1,r2⟩:=(yg a.o (.bool false) (.slice none 0 0) (.slice none 0 0)).c3;have Z:=za (uI (.bool false) (.slice none 0 0) (.slice none 0 0) (show w.heap.size<=w.heap.size+1 by omega) HB.o);have aa:=za (bC (((w5.setCell ⟨w.heap.size+1,0,none⟩ (.bool false)).setCell ⟨w.heap.size+1,1,none⟩ (.slice none 0 0)).setCell ⟨w.heap.size+1,2,none⟩ (.slice none 0 0)));clear HB a j o;go_wp2;refine bodyPost_ret (v:=.tuple #[.agg #[.bool false,.slice none 0 0,.slice none 0 0],.bool true]) (by simp [results,results9,go_sem,r0,r1,r2]) rfl ?_;exact⟨_,_,_,_,_,_,_,rfl,by rw [t.o];exact aa.o,Z.o⟩
 ·have d2:decide ((k4:Int)<(n:Int))=false:=decide_eq_false zb;have o:ub m MM=st.p / vq MM:=by rw [u.o,H.o,if_neg (by have:=I.o;omega)]
  have t:=za o;clear o;obtain⟨b6,A6,n6,c6,E6,k6,f6,rfl,rfl,rfl,P⟩:=j.o.lead;obtain⟨b7,A7,n7,c7,E7,k7,f7,rfl,rfl,rfl,Q⟩:=j.o.rsd;have k:zd (g4≠w.heap.size+1):=λe=>by subst e;exact absurd (tp j.o.blk a.o) zg
  go_upto_region 6 with fail;have g:=(qZ w5.heap.size w5).drew;obtain⟨-,-,p2,p3,p4,p5,p6,p7⟩:=j.o.cells;refine rg (zl p2 (zl p3 (zl p4 (zl p5 (zl p6 (zl p7 zJ)))))) (λhHeld=>?_);have HB:=za (zc HB.o g);have a:=za (zf g a.o);have y:=za (P.below g);have B:=za (Q.below g);clear p2 p3 p4 p5 p6 p7 g P Q j;generalize w5.drew=D5 at*;refine tk 0 ?_;refine tk 1 ?_;refine tk 2 ?_;refine tk 3 ?_;refine tk 4 ?_;refine tk 5 ?_;refine tk 6 ?_;refine tk 7 ?_;refine rc 8 (λKK d=>?_);go_simp;(with_reducible refine(UZ st.p (vq MM) b6 A6 n6 c6 E6 k6 f6 b7 A7 n7 c7 E7 k7 f7 _ (HT.o _ HB.o) y.o B.o (L.o.fit y.o zb) (ac.o.fit B.o zb) ab.o).mono ?_);rintro eo w6 ⟨b8,A8,n8,c8,E8,k8,f8,rfl,R,hb⟩;refine d.out _ _ (Cs.below hHeld hb) (λhHeld=>?_);have HB:=za (zc HB.o hb);have a:=za (zf hb a.o);have J:=za R;clear d KK hb R y B;refine tk 9 ?_;refine tk 10 ?_;obtain⟨S,V,T,X,U,Y⟩:=yh a.o (.bool b8) (.slice A8 n8 c8);obtain⟨r0,r1,r2⟩:=(yg a.o (.bool b8) (.slice A8 n8 c8) (.slice E8 k8 f8)).c3;have HG:=za (lE true J.o a.o HB.o (show w.heap.size<=w.heap.size+1 by omega));refine rc 11 (λKK d=>?_);go_simp;refine d.out _ _ (Cs.far hHeld (vw _ _ (.bool b8) (.slice A8 n8 c8) (.slice E8 k8 f8)) ⟨k.o,k.o,k.o,k.o,k.o,k.o,trivial⟩) (λhHeld=>?_);clear d KK S V T X U Y;refine tk 12 ?_;refine zT ?_;clear hHeld HB a J;go_wp2;refine bodyPost_ret (v:=.tuple #[.agg #[.bool b8,.slice A8 n8 c8,.slice E8 k8 f8],.bool true]) (by simp [results,results9,go_sem,r0,r1,r2]) rfl ?_;rw [t.o];exact HG.o
end
section
variable {A:ze}{n c m K:Nat}{MM:List (List Rat)}{w:World}
theorem SR {V:ze}{cv p:Nat}{xs:List Rat}(hp:m+1=p)(hT:zu w)(h:yF w A n c m MM)(z:zV K MM)(hv:zU w V n cv xs)(zx:zK K xs)(hm9:m<64)(hK:K+2<=67108864:=by omega):
  Calls prog 70 #[.agg #[.slice A n c,.int .i64 (m:Int)],.slice V n cv] w (iw w n p (vk n p λa b=>if b=m then xs.getD a 0 else zv MM a b)):=by
 obtain⟨hn,hm⟩:=And.intro h.hn h.hm;obtain⟨bx,B,C,E,bz⟩:=yn w 28 64 28 #[.slice A n c,.int .i64 (m:Int)] #[.slice V n cv] #[.slice none 0 0,.int .i64 0];have g:=za B;have i:=za C;have j:=za E;have HB:=za bx;have HR:=λW=>za (oE A n c (m:Int) W);have H:∀(W:World) (z9:Int),z9=(p:Int)->zd (Calls prog 62 #[.int .i64 (n:Int),.int .i64 z9] W (λe w'=>e=.returned (.bool true)/\W=w')):=λW z9 y=>by subst y;exact rT (Uk hn (show p<=64 by omega)) W
 have e0:((n:Int) !=(n:Int))=false:=zE;have J:=hv.len;have HM:∀W,Below w.heap.size w W->zh W (w.heap.size) 28 #[.slice A n c,.int .i64 (m:Int)]->zh W (w.heap.size+1) 64 #[.slice V n cv]->∀z9:Int,z9=((p:Nat):Int)->zd (Calls prog 64 #[.int .i64 ((n:Nat):Int),.int .i64 z9,.func (.func 126) #[] #[.pointer (some ⟨w.heap.size,0,none⟩),.pointer (some ⟨w.heap.size+1,0,none⟩)]] W (mX W (n) (p) (vk n p λa b=>if b=m then xs.getD a 0 else zv MM a b))):=λW hW k0 k1 z9 y=>by
  subst y;have hh:=h.keep hW;exact Uj (K:=K) (λa b=>if b=m then xs.getD a 0 else zv MM a b) 126 #[.pointer (some ⟨w.heap.size,0,none⟩),.pointer (some ⟨w.heap.size+1,0,none⟩)] n p W (hT.on hW) ⟨Sk,λa b ha I w' hb=>Rz (hh.keep hb) (zf hb k0) (zf hb k1) ((hv.keep hW).keep hb) ha zb⟩ (λa b ha I=>by split;exact zx.at_ zb;exact z.at_ h.dims ha zb) hn zb hK
 have HP:=za hp;clear bx bz B C E hT h z hv zx J hp;obtain⟨o,s⟩:=g.o.c2;have t:=i.o.c1;go_enter func70,ntmps70;go_wp2_with fail;generalize ((w.alloc (.cells #[.slice A n c,.int .i64 (m:Int)] 28)).alloc (.cells #[.slice V n cv] 64)).alloc (.cells #[.slice none 0 0,.int .i64 0] 28)=W1 at*;refine rg (zl o (zl s (zl t zJ))) (λhHeld=>?_);clear o s t;have k:=(qZ W1.heap.size W1).drew;have HB:=za (zc HB.o k);have g:=za (zf k g.o);have i:=za (zf k i.o);have j:=za (zf k j.o);clear k;generalize W1.drew=D at*;refine tk 0 ?_;refine tk 1 ?_;refine tk 2 ?_;refine rc 3 (λKK d=>?_);go_simp;refine((HR _).o).mono ?_;rintro e w2 ⟨rfl,hb⟩;refine d.out _ _ (Cs.below hHeld hb) (λhHeld=>?_);clear d KK;have HB:=za (zc HB.o hb);have g:=za (zf hb g.o);have i:=za (zf hb i.o);have j:=za (zf hb j.o);clear hb;refine tk 4 ?_;refine tk 5 ?_;refine tk 6 ?_;refine tk 8 ?_;refine tk 9 ?_;refine tk 10 ?_;refine rc 7 (λKK d=>?_);go_simp;refine((HR _).o).mono ?_;rintro e w2 ⟨rfl,hb⟩;refine d.out _ _ (Cs.below hHeld hb) (λhHeld=>?_);clear d KK;have HB:=za (zc HB.o hb);have g:=za (zf hb g.o);have i:=za (zf hb i.o);have j:=za (zf hb j.o);clear hb;refine rc 11 (λKK d=>?_);go_simp;refine((H _ _ (by have h0:=HP.o;first|omega|(have e:IntKind.i64.wrap ((m:Int)+1)=(m:Int)+1:=QO _ zb;omega))).o).mono ?_;rintro e w2 ⟨rfl,rfl⟩;refine d.out _ _ hHeld (λhHeld=>?_);clear d KK;refine tk 12 ?_;refine tk 13 ?_;refine zT ?_;clear hHeld;obtain⟨o,s⟩:=g.o.c2;have t:=i.o.c1;go_wp2_with fail;refine rg (zl o (zl s zJ)) (λhHeld=>?_);clear o s t;have k:=(qZ w2.heap.size w2).drew;have HB:=za (zc HB.o k);have g:=za (zf k g.o);have i:=za (zf k i.o);have j:=za (zf k j.o);clear k;generalize w2.drew=D at*;refine tk 0 ?_;refine tk 2 ?_;refine tk 3 ?_;refine tk 4 ?_;refine tk 5 ?_;refine rc 1 (λKK d=>?_);go_simp;refine((HR _).o).mono ?_;rintro e w2 ⟨rfl,hb⟩;refine d.out _ _ (Cs.below hHeld hb) (λhHeld=>?_);clear d KK;have HB:=za (zc HB.o hb);have g:=za (zf hb g.o);have i:=za (zf hb i.o);have j:=za (zf hb j.o);clear hb;refine rc 6 (λKK d=>?_);go_simp;refine(HM _ HB.o g.o i.o _ (by have h0:=HP.o;first|omega|(have e:IntKind.i64.wrap ((m:Int)+1)=(m:Int)+1:=QO _ zb;omega))).o.mono ?_;rintro e w3 ⟨A3,c3,rfl,G,F,hb⟩;refine d.out _ _ (Cs.below hHeld hb) (λhHeld=>?_);clear d KK;have u:=zf hb j.o;obtain⟨L,N,M,O⟩:=wS u (.slice A3 (n) c3);obtain⟨r0,r1⟩:=(wR u (.slice A3 (n) c3) (.int .i64 ((p:Nat):Int))).c2;have HG:=za (kV G (λad e=>qJ j.o.lt (F ad e)) u (zc HB.o hb) zb);clear hb u G F HB HM g i j;refine rc 7 (λKK d=>?_);go_simp;refine d.out _ _ ?_ (λhHeld=>?_)
 ·refine Cs.far hHeld (uj _ _ _ _) ⟨?_,?_,trivial⟩<;>(show w.heap.size≠w.heap.size+1+1;omega)
 clear d KK;refine tk 8 ?_;refine zT ?_;clear hHeld L N M O;go_wp2;refine bodyPost_ret (v:=.tuple #[.agg #[.slice A3 (n) c3,.int .i64 ((p:Nat):Int)],.bool true]) (by simp [results,results70,go_sem,r0,r1]) rfl ?_;exact HG.o
end
theorem Y0 (M:Nat->Nat->Rat){k:Nat}(hk:k<n)(a:Rat)(u:Nat->Rat):zI n (z8 M k λj=>a*u j)=a*zI n (z8 M k u):=by
 have h:=ev M hk a 0 u u;have e:(λj=>a*u j+0*u j)=λj=>a*u j:=by funext j;grind
 rw [e] at h;rw [h];grind
theorem WE (M:Nat->Nat->Rat)(k:Nat):z8 M k (M k)=M:=by
 funext i j
 unfold z8;by_cases e:i=k
 ·rw [if_pos e,e]
 ·rw [if_neg e]
theorem pz {a0 a:Nat->Nat->Rat}(h:su n a0 a):zI n a=zI n a0:=by
 induction h with
 |refl=>rfl
 | @sw a r q h1 h2 h3 ih=>
   rw [<-ih];have e1:wi r q a=z8 (z8 a r (a q)) q λj=> -1*a r j:=by
    funext i j
    unfold wi z8;by_cases p1:i=r
    ·rw [if_pos p1,if_neg zb,if_pos p1]
    ·rw [if_neg p1];by_cases p2:i=q
     ·rw [if_pos p2,if_pos p2];grind
     ·rw [if_neg p2,if_neg p2,if_neg p1]
   have e2:z8 (z8 a r (a r)) q (a q)=a:=by rw [WE,WE]
   have e3:=lN (n:=n) (k:=r) (l:=q) zb h3 zb (λN hN=>bM h2 h3 hN) a (a q) (a r);rw [e2] at e3;rw [e1,Y0 _ h3,e3]
   grind
theorem Wg {m:Nat}{X:List (List Rat)}(h:zM X m m):∀t,t<=m->zI m (λi j=>if i<t then yi (X.getD i [])*zv X i j else zv X i j)=vq (X.take t)*zI m (zv X)
 |0,_=>by
   have e:(λi j=>if i<0 then yi (X.getD i [])*zv X i j else zv X i j)=zv X:=by
    funext i j;rw [if_neg zb]
   rw [e];show _=(1:Rat)*_;rw [XA]
 |t+1,ht=>by
   have hl:=h.rows;have ih:=Wg h t zb;rw [cQ zb];have e1:(λi j=>if i<t+1 then yi (X.getD i [])*zv X i j else zv X i j)=z8 (λi j=>if i<t then yi (X.getD i [])*zv X i j else zv X i j) t λj=>yi (X.getD t [])*zv X t j:=by
    funext i j
    unfold z8;by_cases p:i=t
    ·rw [if_pos p,if_pos zb,p]
    ·rw [if_neg p];by_cases p2:i<t
     ·show _=if i<t then _ else _
      rw [if_pos p2,if_pos zb]
     ·show _=if i<t then _ else _
      rw [if_neg p2,if_neg zb]
   have e2:z8 (λi j=>if i<t then yi (X.getD i [])*zv X i j else zv X i j) t (λj=>zv X t j)=λi j=>if i<t then yi (X.getD i [])*zv X i j else zv X i j:=by
    funext i j
    unfold z8;by_cases p:i=t
    ·rw [if_pos p,p,if_neg zb]
    ·rw [if_neg p]
   rw [e1,Y0 _ zb,e2,ih]
   grind
theorem Og (h:zM X m m):zI m (zv (x4 X))=vq X*zI m (zv X):=by
 have e:=Wg h m (qY _);rw [qU (by rw [h.rows];exact qY _)] at e;rw [<-e];exact uq λi hi j _=>by rw [if_pos hi];exact fb h hi j
theorem VQ {v:Nat->Rat}{c:Nat}(hc:c<m)(hv:v c=1)(h:∀i,i<m->zC m (λj=>M i j*v j)=0):zI m M=0:=by
 have e1:=fw M hc v (λl i=>M i l) m;have e2:(zC m λl=>v l*zI m (zL M c λi=>M i l))=zC m λl=>(if l=c then 1 else 0)*(v l*zI m M):=yt λl hl=>by
  by_cases e:l=c
  ·rw [if_pos e,e,fi,XA]
  ·rw [if_neg e,ef hc hl (Ne.symm e)];grind
 rw [e2,iK hc (λl=>v l*zI m M),hv,XA] at e1;rw [<-e1,uq (N:=zL M c λi=>0*(λ_=>(0:Rat)) i) λi hi j _=>?_,ee M hc,yV];by_cases e:j=c
 ·rw [e,wV,wV];show zC m (λl=>v l*M i l)=0*0;rw [yt (g:=λl=>M i l*v l) λl _=>YN _ _,h i hi];grind
 ·rw [va _ e,va _ e]
theorem VL {R:Nat->Nat->Rat}{ld:List Nat}(h:RF n m M ld R)(hl:ld.length=m):∀l,l<m->ld.getD l 0=l:=λl a=>by
 have ge:∀l,l<m->l<=ld.getD l 0:=λl=>by
  induction l with
  |zero=>exact λ_=>qN _
  |succ l ih=>intro h2;have:=ih zb;have:=h.up l (l+1) zb zb;omega
 have le:∀d l,l+d+1=m->ld.getD l 0<=l:=λd=>by
  induction d with
  |zero=>intro l h2;have:=h.lt l zb;omega
  |succ d ih=>intro l h2;have:=ih (l+1) zb;have:=h.up l (l+1) zb zb;omega
 have:=ge l a;have:=le (m - l - 1) l zb;omega
theorem UB (h:zM X m m):ub m X=zI m (zv X):=by
 have hr:=ji h;unfold ub;by_cases hl:(xd m X).ld.length<m
 ·rw [if_pos hl];obtain⟨c,hc,hn⟩:=Y2 hl;exact(VQ (v:=uK (xd m X).ld (zv (uk m X)) c) hc (by rw [Vh hn,if_pos rfl]) λi hi=>hr.ker hc hi).symm
 ·rw [if_neg hl];have d:(xd m X).ld.length=m:=by have:=hr.len;omega
  obtain⟨a,hs,hi⟩:=(lQ h).inv;have e1:(xd m X).p=zI m a:=by
   rw [hi.det,d];exact uq λi _ j hj=>by rw [VL hr d j hj]
  rw [e1,pz hs,Og h];have:=Wh X
  grind
