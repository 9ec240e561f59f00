/- What this claim leans on. -/
import Derived.Test.YtielpgdebeggbaaGreatDoorMEAll
import Derived.Test.YtielpgdebeggbaaGreatDoorMMGrid
import Derived.Laws.Append
set_option linter.unusedVariables false
set_option linter.unusedSimpArgs false
namespace Go.Proofs.YtielpgdebeggbaaGreatDoor
open Go Go.RowKit Go.Proofs.Tryz
set_option maxHeartbeats 16000000
set_option maxRecDepth 100000
variable {M X:List (List Rat)}{ld:List Nat}{xs:List Rat}{K c i j k m n:Nat}{R a s:Nat->Nat->Rat}{x:Nat->Rat}{W:World}{A:ze}
def vm (m:Nat)(MM:List (List Rat)):Rat:=if (yp m MM).ld.length<m then 0 else(yp m MM).p / x5 MM
theorem VB:∀{M:List (List Rat)} {r:Rat},r≠0->M.foldl (λr row=>r*zG row) r≠0
 |[],_,h=>h
 |L::M,r,h=>by
   rw [List.foldl_cons];refine VB λe=>?_;rcases Rat.mul_eq_zero.1 e with e|e
   ·exact h e
   ·exact Ud L e
theorem cI (M:List (List Rat)):x5 M≠0:=VB (by decide+kernel)
section
variable {w:World}{A:ze}{n c m K K0:Nat}{MM:List (List Rat)}
theorem SQ (hnm:n≠m):
  Calls prog 30 #[.agg #[.slice A n c,.int .i64 (m:Int)]] w (λeo w'=>eo=.returned (.tuple #[.agg #[.bool false,.slice none 0 0,.slice none 0 0],.bool false])/\Below w.heap.size w w'):=by
 obtain⟨h,i,j,-⟩:=yv w 28 52 #[.slice A n c,.int .i64 (m:Int)] #[.bool false,.slice none 0 0,.slice none 0 0];obtain⟨p0,p1⟩:=i.c2;have HB:=zb h;have a:=zb j;have d1:((n:Int) !=(m:Int))=true:=by rw [bne_iff_ne];omega
 clear h i j;go_enter func30,ntmps30;go_wp2_with fail;generalize (w.alloc (.cells #[.slice A n c,.int .i64 (m:Int)] 28)).alloc (.cells #[.bool false,.slice none 0 0,.slice none 0 0] 52)=W1 at*;have g:=(qZ W1.heap.size W1).drew;refine rg (zj p0 (zj p1 zO)) (λhHeld=>?_);have HB:=zb (zc HB.o g);have a:=zb (zg g a.o);clear p0 p1 g;generalize W1.drew=D at*;refine tk 0 ?_;refine tk 2 ?_;refine rc 1 (λKK d=>?_);go_simp;refine(oO A n c (m:Int) _).mono ?_;rintro eo w2 ⟨rfl,hb⟩;refine d.out _ _ (Cs.below hHeld hb) (λhHeld=>?_);have HB:=zb (zc HB.o hb);have a:=zb (zg hb a.o);clear d KK hb;refine rc 3 (λKK d=>?_);go_simp;refine(uL A n c (m:Int) _).mono ?_;rintro eo w3 ⟨rfl,hb⟩;refine d.out _ _ (Cs.below hHeld hb) (λhHeld=>?_);have HB:=zb (zc HB.o hb);have a:=zb (zg hb a.o);clear d KK hb;refine tk 4 ?_;refine zV ?_;clear hHeld;obtain⟨sc0,sf0,sc1,sf1,sc2,sf2⟩:=y6 a.o (.bool false) (.slice none 0 0);obtain⟨r0,r1,r2⟩:=(xf a.o (.bool false) (.slice none 0 0) (.slice none 0 0)).c3;have k:=zb (lV (.bool false) (.slice none 0 0) (.slice none 0 0) (show w.heap.size<=w.heap.size+1 by omega) HB.o);clear HB a;go_wp2;refine bodyPost_ret (v:=.tuple #[.agg #[.bool false,.slice none 0 0,.slice none 0 0],.bool false]) (by simp [results,results30,go_sem,r0,r1,r2]) rfl ?_;exact⟨rfl,k.o⟩
theorem Uj (hT:zu w)(h:xm w A n c m MM)(F:n=m)(z:zW K0 MM)(hW:yy K MM)(hK:260*K+269<=33554432:=by omega)(af:K+K0<=33554432:=by omega)(ag:0<K:=by omega):
  Calls prog 30 #[.agg #[.slice A n c,.int .i64 (m:Int)]] w (ub w (vm m MM) true):=by
 obtain⟨hn,hm⟩:=And.intro h.hn h.hm;have HM:=zk w (λw' hb=>h.keep hb);have HT:=zk w (λw' hb=>hT.on hb);have HZ:=zb z;have HW:=zb hW;have HD:=zb h.dims;have aj:=km h.dims;obtain⟨s1,s2,s3,s4⟩:=aH h.dims hn hW;have L:=zb s2;have ad:=zb s3;have ac:zd (zn (1+64*K) (x5 MM)):=by
  have:=jI hW MM.length (qX _);rw [List.take_length] at this;exact(this.up (XU (qS _ (by rw [h.dims.rows];omega)) _)).szq za
 have ab:=zb (cI MM);obtain⟨M,C,N,-⟩:=yv w 28 52 #[.slice A n c,.int .i64 (m:Int)] #[.bool false,.slice none 0 0,.slice none 0 0];obtain⟨p0,p1⟩:=C.c2;have HB:=zb M;have i:=zb C;have a:=zb N;have G:oX m (xp MM)=yp m MM:=rfl;have u:zd (vm m MM=if (yp m MM).ld.length<m then 0 else(yp m MM).p / x5 MM):=rfl;obtain⟨st,s⟩:∃st,yp m MM=st:=⟨_,rfl⟩;rw [s] at G L ad u;have ae:=zb G;have d1:((n:Int) !=(m:Int))=false:=by rw [F];simp
 have I:=zb F;clear h hT z hW M C N G s aj s1 s2 s3 s4 F;go_enter func30,ntmps30;go_wp2_with fail;generalize (w.alloc (.cells #[.slice A n c,.int .i64 (m:Int)] 28)).alloc (.cells #[.bool false,.slice none 0 0,.slice none 0 0] 52)=W1 at*;have g:=(qZ W1.heap.size W1).drew;refine rg (zj p0 (zj p1 zO)) (λhHeld=>?_);have HB:=zb (zc HB.o g);have i:=zb (zg g i.o);have a:=zb (zg g a.o);clear p0 p1 g;generalize W1.drew=D at*;refine tk 0 ?_;refine tk 2 ?_;refine rc 1 (λKK d=>?_);go_simp;refine(oO A n c (m:Int) _).mono ?_;rintro eo w2 ⟨rfl,hb⟩;refine d.out _ _ (Cs.below hHeld hb) (λhHeld=>?_);have HB:=zb (zc HB.o hb);have i:=zb (zg hb i.o);have a:=zb (zg hb a.o);clear d KK hb;refine rc 3 (λKK d=>?_);go_simp;refine(uL A n c (m:Int) _).mono ?_;rintro eo w3 ⟨rfl,hb⟩;refine d.out _ _ (Cs.below hHeld hb) (λhHeld=>?_);have HB:=zb (zc HB.o hb);have i:=zb (zg hb i.o);have a:=zb (zg hb a.o);clear d KK hb;refine tk 4 ?_;refine zV ?_;clear hHeld;go_upto_region 3 with fail;have g:=(qZ w3.heap.size w3).drew;obtain⟨p0,p1⟩:=i.o.c2;refine rg (zj p0 (zj p1 zO)) (λhHeld=>?_);have HB:=zb (zc HB.o g);have i:=zb (zg g i.o);have a:=zb (zg g a.o);clear p0 p1 g;generalize w3.drew=D3 at*;refine tk 0 ?_;refine tk 2 ?_;refine rc 1 (λKK d=>?_);go_simp;refine(uL A n c (m:Int) _).mono ?_;rintro eo w2 ⟨rfl,hb⟩;refine d.out _ _ (Cs.below hHeld hb) (λhHeld=>?_);have HB:=zb (zc HB.o hb);have i:=zb (zg hb i.o);have a:=zb (zg hb a.o);clear d KK hb;refine rc 3 (λKK d=>?_);go_simp;(with_reducible refine(Wo (HT.o _ HB.o) (HM.o _ HB.o) HZ.o za).mono ?_);rintro eo w3 ⟨g3,rfl,ah,O,hb⟩;refine d.out _ _ (Cs.below hHeld hb) (λhHeld=>?_);have HB:=zb (zc HB.o hb);have i:=zb (zg hb i.o);have a:=zb (zg hb a.o);have HR:=zb O.rows;clear d KK hb ah O;refine rc 4 (λKK d=>?_);go_simp;(with_reducible refine(V3 (HT.o _ HB.o) HR.o HD.o HZ.o HW.o hn za (qX _) hK af ag).mono ?_);rintro eo w4 ⟨g4,rfl,ai,⟨A4,cA4,B4,k4,cB4,z0,z1,z2,u0,u1,u2,E⟩,hb⟩;rw [ae.o] at E;refine d.out _ _ (Cs.below hHeld hb) (λhHeld=>?_);have HB:=zb (zc HB.o hb);have i:=zb (zg hb i.o);have a:=zb (zg hb a.o);have j:=zb E;clear d KK hb ai E HR;refine tk 5 ?_;refine zV ?_;clear hHeld;go_upto_region 4 with fail;have g:=(qZ w4.heap.size w4).drew;obtain⟨p0,p1⟩:=i.o.c2;obtain⟨-,p2,-⟩:=j.o.cells;refine rg (zj p0 (zj p1 (zj p2 zO))) (λhHeld=>?_);have HB:=zb (zc HB.o g);have j:=zb (j.o.below g);have a:=zb (zg g a.o);clear p0 p1 p2 g i;generalize w4.drew=D4 at*;refine tk 0 ?_;refine tk 1 ?_;refine tk 2 ?_;refine tk 3 ?_;refine tk 4 ?_;refine tk 5 ?_;refine rc 6 (λKK d=>?_);go_simp;refine(oO A n c (m:Int) _).mono ?_;rintro eo w5 ⟨rfl,hb⟩;refine d.out _ _ (Cs.below hHeld hb) (λhHeld=>?_);have HB:=zb (zc HB.o hb);have j:=zb (j.o.below hb);have a:=zb (zg hb a.o);clear d KK hb;refine tk 7 ?_;refine zV ?_;clear hHeld;have H:=zb j.o.hk;by_cases hlt:k4<n
 ·have d2:decide ((k4:Int)<(n:Int))=true:=decide_eq_true za;have o:vm m MM=0:=by rw [u.o,H.o,if_pos (by have:=I.o;omega)]
  have t:=zb o;obtain⟨S,V,T,X,U,Y⟩:=y6 a.o (.bool false) (.slice none 0 0);obtain⟨r0,r1,r2⟩:=(xf a.o (.bool false) (.slice none 0 0) (.slice none 0 0)).c3;have Z:=zb (lV (.bool false) (.slice none 0 0) (.slice none 0 0) (show w.heap.size<=w.heap.size+1 by omega) HB.o);have aa:=zb (iI (((w5.setCell ⟨w.heap.size+1,0,none⟩ (.bool false)).setCell ⟨w.heap.size+1,1,none⟩ (.slice none 0 0)).setCell ⟨w.heap.size+1,2,none⟩ (.slice none 0 0)));clear HB a j o;go_wp2;refine bodyPost_ret (v:=.tuple #[.agg #[.bool false,.slice none 0 0,.slice none 0 0],.bool true]) (by simp [results,results30,go_sem,r0,r1,r2]) rfl ?_;exact⟨_,_,_,_,_,_,_,rfl,by rw [t.o];exact aa.o,Z.o⟩
 ·have d2:decide ((k4:Int)<(n:Int))=false:=decide_eq_false za;have o:vm m MM=st.p / x5 MM:=by rw [u.o,H.o,if_neg (by have:=I.o;omega)]
  have t:=zb o;clear o;obtain⟨b6,A6,n6,c6,E6,k6,f6,rfl,rfl,rfl,P⟩:=j.o.lead;obtain⟨b7,A7,n7,c7,E7,k7,f7,rfl,rfl,rfl,Q⟩:=j.o.rsd;have k:zd (g4≠w.heap.size+1):=λe=>by subst e;exact absurd (tv j.o.blk a.o) zf
  go_upto_region 6 with fail;have g:=(qZ w5.heap.size w5).drew;obtain⟨-,-,p2,p3,p4,p5,p6,p7⟩:=j.o.cells;refine rg (zj p2 (zj p3 (zj p4 (zj p5 (zj p6 (zj p7 zO)))))) (λhHeld=>?_);have HB:=zb (zc HB.o g);have a:=zb (zg g a.o);have y:=zb (P.below g);have B:=zb (Q.below g);clear p2 p3 p4 p5 p6 p7 g P Q j;generalize w5.drew=D5 at*;refine tk 0 ?_;refine tk 1 ?_;refine tk 2 ?_;refine tk 3 ?_;refine tk 4 ?_;refine tk 5 ?_;refine tk 6 ?_;refine tk 7 ?_;refine rc 8 (λKK d=>?_);go_simp;(with_reducible refine(ia st.p (x5 MM) b6 A6 n6 c6 E6 k6 f6 b7 A7 n7 c7 E7 k7 f7 _ (HT.o _ HB.o) y.o B.o (L.o.fit y.o za) (ac.o.fit B.o za) ab.o).mono ?_);rintro eo w6 ⟨b8,A8,n8,c8,E8,k8,f8,rfl,R,hb⟩;refine d.out _ _ (Cs.below hHeld hb) (λhHeld=>?_);have HB:=zb (zc HB.o hb);have a:=zb (zg hb a.o);have J:=zb R;clear d KK hb R y B;refine tk 9 ?_;refine tk 10 ?_;obtain⟨S,V,T,X,U,Y⟩:=y6 a.o (.bool b8) (.slice A8 n8 c8);obtain⟨r0,r1,r2⟩:=(xf a.o (.bool b8) (.slice A8 n8 c8) (.slice E8 k8 f8)).c3;have HG:=zb (ml true J.o a.o HB.o (show w.heap.size<=w.heap.size+1 by omega));refine rc 11 (λKK d=>?_);go_simp;refine d.out _ _ (Cs.far hHeld (vP _ _ (.bool b8) (.slice A8 n8 c8) (.slice E8 k8 f8)) ⟨k.o,k.o,k.o,k.o,k.o,k.o,trivial⟩) (λhHeld=>?_);clear d KK S V T X U Y;refine tk 12 ?_;refine zV ?_;clear hHeld HB a J;go_wp2;refine bodyPost_ret (v:=.tuple #[.agg #[.bool b8,.slice A8 n8 c8,.slice E8 k8 f8],.bool true]) (by simp [results,results30,go_sem,r0,r1,r2]) rfl ?_;rw [t.o];exact HG.o
end
def ir (ld:List Nat)(i:Nat):List Nat:=(List.range i).filter λc=> !decide (c ∈ ld)
theorem Tr:((c:Int)∈ sJ ld)↔c ∈ ld:=by
 unfold sJ;rw [List.mem_map];constructor
 ·rintro⟨l,hl,e⟩;rwa [show c=l by omega]
 ·exact λh=>⟨c,h,rfl⟩
theorem Y2 (h:i<ld.length):(sJ ld).getD i 0=((ld.getD i 0:Nat):Int):=by
 unfold sJ;rw [qQ,qQ,qW,qY h];rfl
section
variable {w:World}{A:ze}{n c m K K0:Nat}{MM:List (List Rat)}
end
theorem yy.up {K':Nat}(h:yy K M)(e:K<=K'):yy K' M:=⟨λrow hr=>(h.q row hr).up e,λrow hr x hx=>(h.x row hr x hx).up e⟩
theorem Pd {r:Rat}(i j:Nat):zl (tA r M) i j=r*zl M i j:=by
 unfold zl tA;rw [qQ (l:=List.map _ _),qQ (l:=M),qW];cases M[i]? with
 |none=>exact(xL r).symm
 |some row=>exact sU j
theorem aL (h:zM M n m):RF n m (zl M) (yp m M).ld (zl (uY m M)):=by
 have e:zl (uY m M)=λi j=>(yp m M).p⁻¹*zl (yp m M).S i j:=by
  funext i j;exact Pd i j
 rw [e];refine RF.of_elim (km h) λi hi=>⟨zG (M.getD i []),eI (by decide+kernel),λj hj=>bD h hi j⟩
theorem RF.congr {M M':Nat->Nat->Rat}(h:RF n m M ld R)(e:∀i,i<n->∀j,j<m->M i j=M' i j):RF n m M' ld R:=
 ⟨h.len,h.up,h.lt,h.piv,h.zero,h.fore,λi hi j hj=>by
  rw [<-e i hi j hj,h.sum i hi j hj];exact zU λl hl=>by rw [e i hi _ (h.lt l hl)],λl hl=>by
  obtain⟨y,hy⟩:=h.span l hl;exact⟨y,λj hj=>(hy j hj).trans (zU λi hi=>by rw [e i hi j hj])⟩⟩
theorem Wn (M:Nat->Nat->Rat){k:Nat}(hk:k<n)(a:Rat)(u:Nat->Rat):zB n (z7 M k λj=>a*u j)=a*zB n (z7 M k u):=by
 have h:=ez M hk a 0 u u;have e:(λj=>a*u j+0*u j)=λj=>a*u j:=by funext j;grind
 rw [e] at h;rw [h];grind
theorem cY (M:Nat->Nat->Rat)(k:Nat):z7 M k (M k)=M:=by
 funext i j
 unfold z7;by_cases e:i=k
 ·rw [if_pos e,e]
 ·rw [if_neg e]
theorem ol {a0:Nat->Nat->Rat}(h:rh n a0 a):zB n a=zB n a0:=by
 induction h with
 |refl=>rfl
 | @sw a r q h1 h2 h3 ih=>
   rw [<-ih];have e1:wF r q a=z7 (z7 a r (a q)) q λj=> -1*a r j:=by
    funext i j
    unfold wF z7;by_cases p1:i=r
    ·rw [if_pos p1,if_neg za,if_pos p1]
    ·rw [if_neg p1];by_cases p2:i=q
     ·rw [if_pos p2,if_pos p2];grind
     ·rw [if_neg p2,if_neg p2,if_neg p1]
   have e2:z7 (z7 a r (a r)) q (a q)=a:=by rw [cY,cY]
   have e3:=pZ (n:=n) (k:=r) (l:=q) za h3 za (λN hN=>iM h2 h3 hN) a (a q) (a r);rw [e2] at e3;rw [e1,Wn _ h3,e3]
   grind
theorem Vr {m:Nat}{X:List (List Rat)}(h:zM X m m):∀t,t<=m->zB m (λi j=>if i<t then zG (X.getD i [])*zl X i j else zl X i j)=x5 (X.take t)*zB m (zl X)
 |0,_=>by
   have e:(λi j=>if i<0 then zG (X.getD i [])*zl X i j else zl X i j)=zl X:=by
    funext i j;rw [if_neg za]
   rw [e];show _=(1:Rat)*_;rw [XJ]
 |t+1,ht=>by
   have hl:=h.rows;have ih:=Vr h t za;rw [cE za];have e1:(λi j=>if i<t+1 then zG (X.getD i [])*zl X i j else zl X i j)=z7 (λi j=>if i<t then zG (X.getD i [])*zl X i j else zl X i j) t λj=>zG (X.getD t [])*zl X t j:=by
    funext i j
    unfold z7;by_cases p:i=t
    ·rw [if_pos p,if_pos za,p]
    ·rw [if_neg p];by_cases p2:i<t
     ·show _=if i<t then _ else _
      rw [if_pos p2,if_pos za]
     ·show _=if i<t then _ else _
      rw [if_neg p2,if_neg za]
   have e2:z7 (λi j=>if i<t then zG (X.getD i [])*zl X i j else zl X i j) t (λj=>zl X t j)=λi j=>if i<t then zG (X.getD i [])*zl X i j else zl X i j:=by
    funext i j
    unfold z7;by_cases p:i=t
    ·rw [if_pos p,p,if_neg za]
    ·rw [if_neg p]
   rw [e1,Wn _ za,e2,ih]
   grind
theorem VR (h:zM X m m):zB m (zl (xp X))=x5 X*zB m (zl X):=by
 have e:=Vr h m (qX _);rw [qV (by rw [h.rows];exact qX _)] at e;rw [<-e];exact vQ λi hi j _=>by rw [if_pos hi];exact bD h hi j
theorem UD {M:Nat->Nat->Rat}{v:Nat->Rat}(hc:c<m)(hv:v c=1)(h:∀i,i<m->zt m (λj=>M i j*v j)=0):zB m M=0:=by
 have e1:=jP M hc v (λl i=>M i l) m;have e2:(zt m λl=>v l*zB m (zP M c λi=>M i l))=zt m λl=>(if l=c then 1 else 0)*(v l*zB m M):=zU λl hl=>by
  by_cases e:l=c
  ·rw [if_pos e,e,jL,XJ]
  ·rw [if_neg e,iF hc hl (Ne.symm e)];grind
 rw [e2,sY hc (λl=>v l*zB m M),hv,XJ] at e1;rw [<-e1,vQ (N:=zP M c λi=>0*(λ_=>(0:Rat)) i) λi hi j _=>?_,fV M hc,XL];by_cases e:j=c
 ·rw [e,vu,vu];show zt m (λl=>v l*M i l)=0*0;rw [zU (g:=λl=>M i l*v l) λl _=>YH _ _,h i hi];grind
 ·rw [vz _ e,vz _ e]
theorem rO {M:Nat->Nat->Rat}(h:RF n m M ld R)(hl:ld.length=m):∀l,l<m->ld.getD l 0=l:=λl a=>by
 have ge:∀l,l<m->l<=ld.getD l 0:=λl=>by
  induction l with
  |zero=>exact λ_=>qM _
  |succ l ih=>intro h2;have:=ih za;have:=h.up l (l+1) za za;omega
 have le:∀d l,l+d+1=m->ld.getD l 0<=l:=λd=>by
  induction d with
  |zero=>intro l h2;have:=h.lt l za;omega
  |succ d ih=>intro l h2;have:=ih (l+1) za;have:=h.up l (l+1) za za;omega
 have:=ge l a;have:=le (m - l - 1) l za;omega
theorem bX (h:zM X m m):vm m X=zB m (zl X):=by
 have hr:=aL h;unfold vm;by_cases hl:(yp m X).ld.length<m
 ·rw [if_pos hl];obtain⟨c,hc,hn⟩:=SS hl;exact(UD (v:=sk (yp m X).ld (zl (uY m X)) c) hc (by rw [PJ hn,if_pos rfl]) λi hi=>hr.ker hc hi).symm
 ·rw [if_neg hl];have d:(yp m X).ld.length=m:=by have:=hr.len;omega
  obtain⟨a,hs,hi⟩:=(km h).inv;have e1:(yp m X).p=zB m a:=by
   rw [hi.det,d];exact vQ λi _ j hj=>by rw [rO hr d j hj]
  rw [e1,ol hs,VR h];have:=cI X
  grind
theorem qd (h:zM X m m):vm m X=0↔(yp m X).ld.length<m:=by
 unfold vm;by_cases hl:(yp m X).ld.length<m
 ·rw [if_pos hl];exact⟨λ_=>hl,λ_=>rfl⟩
 ·rw [if_neg hl];obtain⟨a,_,hi⟩:=(km h).inv;have h1:=hi.ne;have h2:=cI X;exact⟨λe=>absurd e (by intro e;apply h1;grind),λe=>absurd e hl⟩
theorem Yx:(xs.drop n).getD j 0=xs.getD (n+j) 0:=by
 rw [qQ,qQ,yE]
def zI (s:Nat->Nat->Rat)(k:Nat):Rat:=if k=0 then 1 else s (k - 1) (k - 1)
theorem eQ (s:Nat->Nat->Rat)(k:Nat):zI s (k+1)=s k k:=rfl
def wt (s:Nat->Nat->Rat)(i j k:Nat):Rat:=s i k*s k j*(s k k*zI s k)⁻¹
structure wV (n c:Nat)(a s:Nat->Nat->Rat):Prop where
 cn:c<=n
 ne:∀k,k<c->s k k≠0
 eq:∀i,i<n->∀j,j<n->a i j=zt c (λk=>if k<=i/\k<=j then wt s i j k else 0)+if c<=i/\c<=j then(zI s c)⁻¹*s i j else 0
theorem wV.pr (h:wV n c a s){k:Nat}(hk:k<=c):zI s k≠0:=by
 cases k with
 |zero=>show(1:Rat)≠0;decide+kernel
 |succ k=>exact h.ne k za
theorem wV.start (n:Nat)(a:Nat->Nat->Rat):wV n 0 a a where
 cn:=qM _
 ne:=λk hk=>by cases hk
 eq:=λi _ j _=>by
  rw [eF,if_pos ⟨qM _,qM _⟩];show a i j=0+(1:Rat)⁻¹*a i j
  grind
def uD (c:Nat)(s:Nat->Nat->Rat):Nat->Nat->Rat:=λi j=>if c<i/\c<j then(zI s c)⁻¹*(s c c*s i j+ -s i c*s c j) else s i j
theorem Tk (s:Nat->Nat->Rat)(h:k<=c+1):zI (uD c s) k=zI s k:=by
 unfold zI uD
 split
 ·rfl
 ·rw [if_neg za]
theorem wV.step {s:Nat->Nat->Rat}(h:wV n c a s)(hc:c<n)(h0:s c c≠0):wV n (c+1) a (uD c s) where
 cn:=hc
 ne:=λk hk=>by
  unfold uD;rw [if_neg za];by_cases e:k=c
  ·rw [e];exact h0
  ·exact h.ne k za
 eq:=λi hi j hj=>by
  have hp:=h.pr (qX c);have tm:∀k,k<=c->k<=i/\k<=j->wt (uD c s) i j k=wt s i j k:=λk hk _=>by
   unfold wt;rw [Tk s za];unfold uD;rw [if_neg za,if_neg za,if_neg za]
  rw [h.eq i hi j hj,x4];have e1:zt c (λk=>if k<=i/\k<=j then wt (uD c s) i j k else 0)=zt c (λk=>if k<=i/\k<=j then wt s i j k else 0):=zU λk hk=>by
   split
   ·next e=>exact tm k za e
   ·rfl
  rw [e1];by_cases e:c<=i/\c<=j
  ·rw [if_pos e,if_pos e,tm c (qX c) e];unfold wt;by_cases e2:c+1<=i/\c+1<=j
   ·rw [if_pos e2,Tk s (qX _),eQ];unfold uD;rw [if_pos za]
    grind
   ·rw [if_neg e2];by_cases e3:i=c
    ·subst e3;grind
    ·have e4:j=c:=za;subst e4;grind
  ·rw [if_neg e,if_neg e,if_neg za];grind
def yn (r q:Nat)(s:Nat->Nat->Rat):Nat->Nat->Rat:=λi j=>if i=r then s q j else if i=q then s r j else s i j
theorem wV.xch_ {q:Nat}(h:wV n c a s)(h1:c<q)(h2:q<n):wV n c (yn c q a) (yn c q s) where
 cn:=h.cn
 ne:=λk hk=>by
  unfold yn;rw [if_neg za,if_neg za];exact h.ne k hk
 eq:=λi hi j hj=>by
  have g:∀k,k<=c->zI (yn c q s) k=zI s k:=λk hk=>by
   unfold zI yn
   split
   ·rfl
   ·rw [if_neg za,if_neg za]
  have hk:∀k,k<c->yn c q s k=s k:=λk hk=>by funext j;unfold yn;rw [if_neg za,if_neg za]
  have d:∀i',i'<n->(∀j,yn c q s i j=s i' j)->yn c q a i j=a i' j->(i'=i\/(c<=i/\c<=i'))->yn c q a i j=zt c (λk=>if k<=i/\k<=j then wt (yn c q s) i j k else 0)+if c<=i/\c<=j then(zI (yn c q s) c)⁻¹*yn c q s i j else 0:=λi' m e1 e2 e3=>by
   rw [e2,h.eq i' m j hj,g c (qX c),e1 j];congr 1
   ·refine zU λk o=>?_;have:(k<=i'/\k<=j)↔(k<=i/\k<=j):=za;simp only [this]
    split
    ·unfold wt;rw [e1 k,hk k o,g k za]
    ·rfl
   ·have:(c<=i'/\c<=j)↔(c<=i/\c<=j):=za;simp only [this]
  by_cases e:i=c
  ·exact d q h2 (λj=>by unfold yn;rw [if_pos e]) (by unfold yn;rw [if_pos e]) za
  ·by_cases e2:i=q
   ·exact d c za (λj=>by unfold yn;rw [if_neg e,if_pos e2]) (by unfold yn;rw [if_neg e,if_pos e2]) za
   ·exact d i hi (λj=>by unfold yn;rw [if_neg e,if_neg e2]) (by unfold yn;rw [if_neg e,if_neg e2]) (Or.inl rfl)
theorem xt.xch_ {p:Rat}(h:xt n m c a s ld p){q:Nat}(h1:ld.length<q)(h2:q<n):xt n m c (yn ld.length q a) (yn ld.length q s) ld p where
 len:=h.len
 cm:=h.cm
 up:=h.up
 lt:=h.lt
 ne:=h.ne
 piv:=λl hl i hi=>by
  unfold yn;by_cases e1:i=ld.length
  ·rw [if_pos e1,if_neg za,h.piv l hl q h2,if_neg za]
  ·rw [if_neg e1];by_cases e2:i=q
   ·rw [if_pos e2,if_neg za,h.piv l hl ld.length za,if_neg za]
   ·rw [if_neg e2,h.piv l hl i hi]
 low:=λi hi k j hj=>by
  unfold yn
  split
  ·exact h.low q za h2 j hj
  ·split
   ·exact h.low ld.length (qX _) za j hj
   ·exact h.low i hi k j hj
 fore:=λl hl j hj=>by
  unfold yn;rw [if_neg za,if_neg za];exact h.fore l hl j hj
 back:=λi hi j hj=>by
  have hs:∀l,l<ld.length->yn ld.length q s l=s l:=λl hl=>by funext j;unfold yn;rw [if_neg za,if_neg za]
  have d:∀i',i'<n->(∀j,yn ld.length q a i j=a i' j)->(∀j,yn ld.length q s i j=s i' j)->(i'=i\/(ld.length<=i/\ld.length<=i'))->p*yn ld.length q a i j=zt ld.length (λl=>yn ld.length q a i (ld.getD l 0)*yn ld.length q s l j)+if ld.length<=i then yn ld.length q s i j else 0:=λi' g e1 e2 e3=>by
   rw [e1,e2,h.back i' g j hj];congr 1
   ·exact zU λl hl=>by rw [e1,hs l hl]
   ·have:(ld.length<=i')↔(ld.length<=i):=za;simp only [this]
  by_cases e:i=ld.length
  ·exact d q h2 (λj=>by unfold yn;rw [if_pos e]) (λj=>by unfold yn;rw [if_pos e]) za
  ·by_cases e2:i=q
   ·exact d ld.length za (λj=>by unfold yn;rw [if_neg e,if_pos e2]) (λj=>by unfold yn;rw [if_neg e,if_pos e2]) za
   ·exact d i hi (λj=>by unfold yn;rw [if_neg e,if_neg e2]) (λj=>by unfold yn;rw [if_neg e,if_neg e2]) (Or.inl rfl)
 det:=by
  rw [h.det];exact vQ λi hi j _=>by unfold yn;rw [if_neg za,if_neg za]
def vg (n m c:Nat)(a s:Nat->Nat->Rat):Prop:=∃t,xt n m c a t (List.range c) (zI s c)/\∀i,c<=i->i<n->∀j,c<=j->j<m->t i j=s i j
theorem vg.start (n m:Nat)(a:Nat->Nat->Rat):vg n m 0 a a:=⟨a,xt.start n m a,λ_ _ _ _ _ _=>rfl⟩
theorem vg.xch_ {q:Nat}(h:vg n m c a s)(h1:c<q)(h2:q<n):vg n m c (yn c q a) (yn c q s):=by
 obtain⟨t,h3,h4⟩:=h;have e:zI (yn c q s) c=zI s c:=by
  unfold zI yn
  split
  ·rfl
  ·rw [if_neg za,if_neg za]
 have h5:=h3.xch_ (q:=q) (by rw [XD];exact h1) h2;rw [XD] at h5;refine⟨_,by rw [e];exact h5,λi hi g j hj d=>?_⟩;unfold yn
 split
 ·exact h4 q za h2 j hj d
 ·split
  ·exact h4 c (qX c) za j hj d
  ·exact h4 i hi g j hj d
theorem vg.step {s s':Nat->Nat->Rat}(h:vg n m c a s)(hc:c<n)(hm:c<m)(h0:s c c≠0)(e:∀i,c<i->i<n->∀j,c<j->j<m->s' i j=(zI s c)⁻¹*(s c c*s i j+ -s i c*s c j))(e0:s' c c=s c c):vg n m (c+1) a s':=by
 obtain⟨t,h3,h4⟩:=h;have d:=h4 c (qX c) hc c (qX c) hm;have h5:=h3.clear hm (by rw [XD];exact hc) (by rw [XD,d];exact h0);rw [XD,d,<-XE] at h5;refine⟨_,by rw [eQ,e0];exact h5,λi hi g j hj k=>?_⟩;unfold r6;rw [if_neg za,e i hi g j hj k,d,h4 i za g j za k,h4 i za g c (qX c) hm,h4 c (qX c) hc j za k]
theorem vg.at_ {n:Nat}(h:vg n m c a s)(hn:n<=64)(ha:∀i,i<n->∀j,j<m->LI K (a i j)){i j:Nat}(h1:c<=i)(h2:i<n)(h3:c<=j)(h4:j<m):LI (67+65*K) (s i j):=by
 obtain⟨t,h5,h6⟩:=h;rw [<-h6 i h1 h2 j h3 h4];exact h5.sz hn ha h2 h4
theorem vg.det (h:vg n m n a s):zI s n=zB n a:=by
 obtain⟨t,h5,_⟩:=h;rw [h5.det,XD];exact vQ λi _ j hj=>by rw [qQ,xB hj];rfl
theorem vg.none (h:vg n n c a s)(hc:c<n)(h0:∀i,c<=i->i<n->s i c=0):zB n a=0:=by
 obtain⟨t,h5,h6⟩:=h;have hp:=h5.ne;have hg:∀l,l<c->(List.range c).getD l 0=l:=λl hl=>by rw [qQ,xB hl];rfl
 refine UD (v:=λj=>if j=c then 1 else if j<c then -(zI s c)⁻¹*t j c else 0) hc (if_pos rfl) λi hi=>?_;have hb:=h5.back i hi c hc;rw [XD] at hb;have e0:(if c<=i then t i c else 0)=0:=by
  split
  ·next e=>rw [h6 i e hi c (qX c) hc];exact h0 i e hi
  ·rfl
 rw [e0,xY] at hb;have e1:zt n (λj=>a i j*(if j=c then 1 else if j<c then -(zI s c)⁻¹*t j c else 0))=zt n (λj=>(if j=c then 1 else 0)*a i j) - zt n (λj=>if j<c then(zI s c)⁻¹*(a i j*t j c) else 0):=by
  rw [<-UH];refine zU λj _=>?_;by_cases e:j=c
  ·rw [if_pos e,if_pos e,if_neg za];grind
  ·rw [if_neg e,if_neg e]
   split<;>grind
 rw [e1,sY hc (λj=>a i j)];have cut:∀d,zt (c+d) (λj=>if j<c then(zI s c)⁻¹*(a i j*t j c) else 0)=zt c (λj=>(zI s c)⁻¹*(a i j*t j c)):=λd=>by
  induction d with
  |zero=>exact zU λj hj=>if_pos hj
  |succ d ih=>rw [<-xC,x4,ih,if_neg za,xY]
 have:=cut (n - c);rw [show c+(n - c)=n by omega] at this;rw [this,<-wJ,zU (g:=λl=>a i ((List.range c).getD l 0)*t l c) λl hl=>by rw [hg l hl],<-hb]
 grind
theorem ou {m:Nat}(h:m<=n){f:Nat->Rat}(h0:∀k,m<=k->k<n->f k=0):zt n f=zt m f:=by
 obtain⟨d,rfl⟩:=Nat.le.dest h;clear h
 induction d with
 |zero=>rfl
 |succ d ih=>rw [<-xC,x4,h0 (m+d) za za,xY,ih λk h1 h2=>h0 k h1 za]
theorem wV.all (h:wV n n a s){i j:Nat}(hi:i<n)(hj:j<n):a i j=zt n λk=>if k<=i/\k<=j then wt s i j k else 0:=by
 rw [h.eq i hi j hj,if_neg za,xY]
theorem wV.turn (h:wV n n a s):wV n n (λi j=>a j i) (λi j=>s j i) where
 cn:=h.cn
 ne:=h.ne
 eq:=λi hi j hj=>by
  rw [if_neg za,xY,h.all hj hi];refine zU λk _=>?_;have hp:zI (λi j=>s j i) k=zI s k:=rfl;by_cases e:k<=i/\k<=j
  ·rw [if_pos e,if_pos ⟨e.2,e.1⟩];unfold wt;rw [hp];grind
  ·rw [if_neg e,if_neg λx=>e ⟨x.2,x.1⟩]
theorem vg.turn (h:zI s n=zB n a):zI (λi j=>s j i) n=zB n (λi j=>a j i):=by
 rw [Pr,<-h];rfl
theorem zR.rest {w:World}{ad:Addr}{k:Nat}(h:zR w (some ad) n c xs)(hk:k<=n):zR w (some (ad.add (k*3))) (n - k) (c - k) (xs.drop k):=
 ⟨by rw [QE,h.len],by have:=h.fits;omega,by have:=h.most;omega,λi x hi=>by
  rw [yE] at hi;obtain⟨ad',b,B,m,d,F,u,v,e,h1,h2,h3,h4,h5⟩:=h.num _ x hi;injection e with e;subst e;have ea:∀j,(ad.add (k*3)).add j=ad.add (k*3+j):=λj=>kk _ _ _;refine⟨_,b,B,m,d,F,u,v,rfl,by rw [y4];exact h1,?_,?_,?_,h5⟩
  ·rw [ea,show k*3+i*3=(k+i)*3 by omega];exact h2
  ·rw [ea,show k*3+(i*3+1)=(k+i)*3+1 by omega];exact h3
  ·rw [ea,show k*3+(i*3+2)=(k+i)*3+2 by omega];exact h4⟩
def uo (n:Nat)(s:Nat->Nat->Rat)(c:Nat):Nat->Nat->Rat:=λi j=>if c<=i/\c<=j then zI s c*zt n (λk=>if c<=k/\k<=i/\k<=j then wt s i j k else 0) else s i j
theorem UJ (hc:c<n)(f:Nat->Rat)(p:Nat->Bool):zt n (λk=>if c<=k/\p k=true then f k else 0)=(if p c=true then f c else 0)+zt n (λk=>if c+1<=k/\p k=true then f k else 0):=by
 rw [<-sY hc (λk=>if p k=true then f k else 0),<-sx];refine zU λk _=>?_;by_cases e:k=c
 ·subst e;rw [if_pos rfl,if_neg (by omega:¬(k+1<=k/\_))];by_cases q:p k=true
  ·rw [if_pos ⟨qX _,q⟩,if_pos q];grind
  ·rw [if_neg λx=>q x.2,if_neg q];grind
 ·rw [if_neg e,XL,YQ];by_cases q:c<=k/\p k=true
  ·rw [if_pos q,if_pos ⟨za,q.2⟩]
  ·rw [if_neg q,if_neg λx=>q ⟨za,x.2⟩]
theorem VH {c:Nat}(s:Nat->Nat->Rat)(hc:c<n)(hi:c<=i)(hj:c<=j):zt n (λk=>if c<=k/\k<=i/\k<=j then wt s i j k else 0)=wt s i j c+zt n (λk=>if c+1<=k/\k<=i/\k<=j then wt s i j k else 0):=by
 have h:=UJ hc (wt s i j) (λk=>decide (k<=i/\k<=j));simp only [decide_eq_true_eq] at h;rw [h,if_pos ⟨hi,hj⟩]
theorem om (s:Nat->Nat->Rat)(h:i<=c\/j<=c):zt n (λk=>if c+1<=k/\k<=i/\k<=j then wt s i j k else 0)=0:=vS λk _=>if_neg za
theorem bK {n:Nat}(hc:c<n)(h0:s c c≠0)(hp:zI s c≠0)(hi:c<=i)(hj:c<=j)(h:i=c\/j=c):uo n s c i j=s i j:=by
 unfold uo;rw [if_pos ⟨hi,hj⟩,VH s hc hi hj,om s za];unfold wt;rcases h with rfl|rfl<;>grind
theorem jy (s:Nat->Nat->Rat):zI (uo n s c) c=zI s c:=by
 unfold zI uo
 split
 ·rfl
 ·rw [if_neg za]
theorem oo (hc:c<n)(h0:s c c≠0)(hp:zI s c≠0)(hi:c<i)(hj:c<j):uo n s (c+1) i j=(zI (uo n s c) c)⁻¹*(uo n s c c c*uo n s c i j+ -uo n s c i c*uo n s c c j):=by
 rw [jy,bK hc h0 hp (qX c) (qX c) (Or.inl rfl),bK hc h0 hp za (qX c) (Or.inr rfl),bK hc h0 hp (qX c) za (Or.inl rfl)];unfold uo;rw [if_pos ⟨hi,hj⟩,if_pos ⟨za,za⟩,VH (c:=c) s hc za za,eQ];unfold wt;generalize zt n (λk=>if c+1<=k/\k<=i/\k<=j then s i k*s k j*(s k k*zI s k)⁻¹ else 0)=u
 grind
theorem oq {n m:Nat}{a s:Nat->Nat->Rat}(hm:n<=m)(ne:∀k,k<n->s k k≠0)(h:∀i,i<n->∀j,j<m->a i j=zt n (λk=>if 0<=k/\k<=i/\k<=j then wt s i j k else 0)):∀c,c<=n->vg n m c a (uo n s c)
 |0,_=>⟨a,by
    have:=xt.start n m a;have e:zI (uo n s 0) 0=1:=rfl;rw [e];exact this,λi _ hi j _ hj=>by
    unfold uo;rw [if_pos ⟨qM _,qM _⟩,h i hi j hj];show _=(1:Rat)*_;rw [XJ]⟩
 |c+1,hc=>by
   have hp:zI s c≠0:=by
    cases c with
    |zero=>show(1:Rat)≠0;decide+kernel
    |succ c=>exact ne c za
   have h0:=ne c za;have e0:=bK (n:=n) za h0 hp (qX c) (qX c) (Or.inl rfl);refine(oq hm ne h c za).step za za (by rw [e0];exact h0) (λi h1 _ j h3 _=>oo za h0 hp h1 h3) ?_;rw [e0];unfold uo;rw [if_neg za]
structure sh (n:Nat)(s:Nat->Nat->Rat)(b:Nat->Rat)(X:Nat->Nat->Rat):Prop where
 ne:∀k,k<n->s k k≠0
 zero:∀i,i<n->X 0 i=b i
 step:∀c,c<n->∀i,i<n->X (c+1) i=if c<i then(zI s c)⁻¹*(s c c*X c i+ -X c c*s i c) else X c i
section
variable {n:Nat}{a s:Nat->Nat->Rat}{b:Nat->Rat}{X:Nat->Nat->Rat}
theorem sh.pr (h:sh n s b X){k:Nat}(hk:k<=n):zI s k≠0:=by
 cases k with
 |zero=>show(1:Rat)≠0;decide+kernel
 |succ k=>exact h.ne k za
theorem sh.late (h:sh n s b X){i:Nat}(hi:i<n):∀d,i+d<=n->X (i+d) i=X i i
 |0,_=>rfl
 |d+1,hd=>by
   rw [<-xC,h.step _ za i hi,if_neg za];exact h.late hi d za
theorem sh.late' (h:sh n s b X){i c:Nat}(hi:i<n)(hc:i<=c)(a:c<=n):X c i=X i i:=by
 obtain⟨d,rfl⟩:=Nat.le.dest hc;exact h.late hi d a
theorem sh.eq (h:sh n s b X):∀c,c<=n->∀i,i<n->b i=zt c (λk=>if k<=i then s i k*X k k*(s k k*zI s k)⁻¹ else 0)+if c<=i then(zI s c)⁻¹*X c i else 0
 |0,_,i,hi=>by
   rw [eF,if_pos (qM _),h.zero i hi];show b i=0+(1:Rat)⁻¹*b i
   grind
 |c+1,hc,i,hi=>by
   have h0:=h.ne c za;have hp:=h.pr (k:=c) za;rw [h.eq c za i hi,x4,h.step c za i hi,eQ];by_cases e:c<=i
   ·rw [if_pos e,if_pos e];by_cases e2:c<i
    ·rw [if_pos (by omega:c+1<=i),if_pos e2];grind
    ·have:i=c:=za;subst this;rw [if_neg za];grind
   ·rw [if_neg e,if_neg e,if_neg za];grind
def uC (n:Nat)(s:Nat->Nat->Rat)(x:Nat->Rat):Nat->Nat->Rat:=λi j=>if j<n then s i j else x i
theorem Yt (hk:k<=n):zI (uC n s x) k=zI s k:=by
 unfold zI uC
 split
 ·rfl
 ·rw [if_pos za]
theorem Tc (hk:k<n):wt (uC n s x) i n k=s i k*x k*(s k k*zI s k)⁻¹:=by
 unfold wt;rw [Yt za];unfold uC;rw [if_pos hk,if_neg (Nat.lt_irrefl n),if_pos hk]
theorem rQ (hk:k<n)(hj:j<n):wt (uC n s x) i j k=wt s i j k:=by
 unfold wt;rw [Yt za];unfold uC;rw [if_pos hk,if_pos hj,if_pos hk]
theorem sh.sz (h:sh n s b X)(hs:wV n n a s){K:Nat}(hn:n<=64)(ha:∀i,i<n->∀j,j<n->LI K (a i j))(hb:∀i,i<n->LI K (b i)){c i:Nat}(hc:c<=n)(hi:i<n):LI (67+65*K) (X c i):=by
 have d:∀c i,c<=i->i<n->LI (67+65*K) (X c i):=λc i hc hi=>by
  have hL:=oq (n:=n) (m:=n+1) (a:=uC n a b) (s:=uC n s λk=>X k k) za (λk hk=>by unfold uC;rw [if_pos hk];exact h.ne k hk) (λi hi j hj=>by
   by_cases e:j<n
   ·rw [show uC n a b i j=a i j by unfold uC;rw [if_pos e],hs.all hi e];refine zU λk hk=>?_;rw [rQ hk e];by_cases q:k<=i/\k<=j
    ·rw [if_pos q,if_pos ⟨qM _,q⟩]
    ·rw [if_neg q,if_neg λx=>q x.2]
   ·have e2:j=n:=za;subst e2;rw [show uC j a b i j=b i by unfold uC;rw [if_neg e],h.eq j (qX _) i hi,if_neg za,xY];refine zU λk hk=>?_;rw [Tc hk];by_cases q:k<=i
    ·rw [if_pos q,if_pos ⟨qM _,q,za⟩]
    ·rw [if_neg q,if_neg λx=>q x.2.1]) c za
  have hx:X c i=uo n (uC n s λk=>X k k) c i n:=by
   unfold uo;rw [if_pos ⟨hc,za⟩,Yt za];have h1:=h.eq c za i hi;have h2:=h.eq n (qX _) i hi;have hp:=h.pr (k:=c) za;rw [if_pos hc] at h1;rw [if_neg za,xY] at h2;have e1:zt n (λk=>if k<=i then s i k*X k k*(s k k*zI s k)⁻¹ else 0)=zt n (λk=>if k<c then(if k<=i then s i k*X k k*(s k k*zI s k)⁻¹ else 0) else 0)+zt n (λk=>if c<=k/\k<=i/\k<=n then wt (uC n s λk=>X k k) i n k else 0):=by
    rw [<-sx];refine zU λk hk=>?_;rw [Tc hk];by_cases q:k<c
    ·rw [if_pos q,if_neg (by omega:¬(c<=k/\_)),xY]
    ·rw [if_neg q,YQ];by_cases q2:k<=i
     ·rw [if_pos q2,if_pos ⟨za,q2,za⟩]
     ·rw [if_neg q2,if_neg λx=>q2 x.2.1]
   have e2:zt n (λk=>if k<c then(if k<=i then s i k*X k k*(s k k*zI s k)⁻¹ else 0) else 0)=zt c (λk=>if k<=i then s i k*X k k*(s k k*zI s k)⁻¹ else 0):=by
    rw [ou (m:=c) za λk h1 _=>if_neg za];exact zU λk hk=>if_pos hk
   rw [e1,e2] at h2;generalize zt n (λk=>if c<=k/\k<=i/\k<=n then wt (uC n s λk=>X k k) i n k else 0)=u at h2⊢;generalize zt c (λk=>if k<=i then s i k*X k k*(s k k*zI s k)⁻¹ else 0)=v at h1 h2;have:(zI s c)⁻¹*X c i=u:=by grind
   rw [<-this];grind
  rw [hx];exact hL.at_ hn (λi hi j hj=>by
   unfold uC
   split
   ·next e=>exact ha i hi j e
   ·exact hb i hi) hc hi za za
 by_cases e:c<=i
 ·exact d c i e hi
 ·rw [h.late' hi za hc];exact d i i (qX i) hi
theorem sh.solves (h:sh n s b X)(hs:wV n n a s){D:Rat}{z:Nat->Rat}(hz:∀k,k<n->zt n (λj=>if k<=j then s k j*z j else 0)=D*X k k):∀i,i<n->zt n (λj=>a i j*z j)=D*b i:=λi hi=>by
 have e1:zt n (λj=>a i j*z j)=zt n λj=>zt n λk=>if k<=i/\k<=j then wt s i j k*z j else 0:=zU λj hj=>by
  rw [hs.all hi hj,P3];refine zU λk _=>?_
  split
  ·rfl
  ·exact XL _
 rw [e1,iO,h.eq n (qX _) i hi,if_neg za,xY,wJ];refine zU λk hk=>?_;by_cases e:k<=i
 ·rw [if_pos e];have e2:zt n (λj=>if k<=i/\k<=j then wt s i j k*z j else 0)=s i k*(s k k*zI s k)⁻¹*zt n (λj=>if k<=j then s k j*z j else 0):=by
   rw [wJ];refine zU λj _=>?_;by_cases q:k<=j
   ·rw [if_pos ⟨e,q⟩,if_pos q];unfold wt;grind
   ·rw [if_neg λx=>q x.2,if_neg q,xL]
  rw [e2,hz k hk];grind
 ·rw [if_neg e,vS λj _=>if_neg λx=>e x.1,xL]
theorem Pp {z:Nat->Rat}(hn:n<=64)(ha:∀i,i<n->∀j,j<n->LI K (a i j))(hb:∀i,i<n->LI K (b i))(hD:zB n a≠0)(hz:∀i,i<n->zt n (λj=>a i j*z j)=zB n a*b i){k:Nat}(hk:k<n):z k=zB n (zP a k b)/\LI (65+64*K) (z k):=by
 have e1:=jP a hk z (λl i=>a i l) n;have e2:(zt n λl=>z l*zB n (zP a k λi=>a i l))=zt n λl=>(if l=k then 1 else 0)*(z l*zB n a):=zU λl hl=>by
  by_cases e:l=k
  ·rw [if_pos e,e,jL,XJ]
  ·rw [if_neg e,iF hk hl (Ne.symm e)];grind
 rw [e2,sY hk (λl=>z l*zB n a)] at e1;have e3:zB n (zP a k λi=>zt n λl=>z l*a i l)=zB n a*zB n (zP a k b):=by
  rw [<-fV a hk];refine vQ λi hi j _=>?_;unfold zP
  split
  ·show zt n (λl=>z l*a i l)=zB n a*b i;rw [<-hz i hi];exact zU λl _=>YH _ _
  ·rfl
 rw [e3] at e1;have e4:z k=zB n (zP a k b):=by grind
 refine⟨e4,?_⟩;rw [e4];refine(LI.det_ (K:=K) hn λi hi j hj=>?_).up ?_
 ·unfold zP
  split
  ·exact hb i hi
  ·exact ha i hi j hj
 ·have:n*(K+1)<=64*(K+1):=qS _ hn;omega
end
theorem ti.below {W':World}{R:nf}(h:ti W A n c R)(hb:Below W.heap.size W W'):ti W' A n c R:=⟨h.fits,h.small,λr hr=>by
 obtain⟨ad,e,h1,h2,h3⟩:=h.row r hr;exact⟨ad,e,qJ h1 hb.size,zw hb h2,h3.below hb⟩⟩
theorem ti.pre {R:nf}(h:ti W A n c R)(hk:k<=n):ti W A k c R:=⟨qH hk h.fits,h.small,λr hr=>h.row r za⟩
theorem mb (h:zM X m m)(hn:m<=64)(hW:yy K X):zn (68+129*K) (vm m X):=by
 obtain⟨_,s2,_,_⟩:=aH h hn hW;have hr:zn (1+64*K) (x5 X):=by
  have:=jI hW X.length (qX _);rw [List.take_length] at this;exact(this.up (XU (qS _ (by rw [h.rows];exact hn)) _)).szq za
 unfold vm
 split
 ·exact zn.zero.up za
 ·exact(s2.div hr).up za
