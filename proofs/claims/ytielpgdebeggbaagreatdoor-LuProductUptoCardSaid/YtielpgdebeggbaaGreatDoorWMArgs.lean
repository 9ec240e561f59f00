/- What this claim leans on. -/
import Derived.Test.YtielpgdebeggbaaGreatDoorWLList
set_option linter.unusedVariables false
set_option linter.unusedSimpArgs false
namespace Go.Proofs.YtielpgdebeggbaaGreatDoor
open Go Go.RowKit Go.Proofs.Tryz
open Go.ChangeShapes Go.WideShapes Go.ChangeAt Go.Deep
set_option maxHeartbeats 16000000
variable {xs ys zs:List Rat}{K m n:Nat}{x:Rat}{t t0:TypeId}{v:Value}{W:World}
theorem U9 {H:Type}{i:TypeId×Value->H}{P:Program}{d:Nat}{t9:TypeId}{f0 f1:Field}{x:DataW H×List MemPlace}
  (g:P.underlying t9=some (.slice t0)) (j:P.cellsOf t0=1) (ht:P.underlying t0=some (.slice t)) (hs:P.underlying t=some (.struct #[f0,f1])) (hf:(f0.offset,P.cellsOf f0.type,f1.offset,P.cellsOf f1.type)=(0,1,1,1)) (hC:P.cellsOf t=2) (h0:P.underlying f0.type=some (.int .i64)) (h1:P.underlying f1.type=some (.int .i64))
  (h:DataW.trod i P W 0 (λ_=>true) true d t9 [v]=some x) (hb:Rows.uptoBulk x.1<=1048576):∃A n c R,v=.slice A n c/\uB W A n c R:=by
 have go:∀A n c,[v]=[Value.slice A n c]->∃A n c R,v=.slice A n c/\uB W A n c R:=λA n c e=>by
  simp only [List.cons.injEq,and_true] at e;subst e;obtain⟨R,hR⟩:=Tp g j ht hs hf hC h0 h1 (A:=A) (n:=n) (c:=c) (by simpa [Value.cells] using h) hb;exact⟨A,n,c,R,rfl,hR⟩
 rcases open_slice g h with⟨hcs,_⟩|⟨a,len,cap,m,k,D,Pl,hcs,_⟩
 ·exact go _ _ _ hcs
 ·exact go _ _ _ hcs
theorem iC {H:Type}{g:TypeId×Value->H}{P:Program}{r:Reach}{b0:Nat}{t8 t9:TypeId}{g0 g1 f0 f1:Field}{d:DataW H}{p:List MemPlace}
  (k:P.underlying t8=some (.struct #[g0,g1])) (a:oneCellFields P #[g0,g1]=true) (i:P.cellsOf t8=2) (k0:P.underlying g0.type=some (.int .u8)) (o:P.underlying g1.type=some (.slice t0)) (j:P.cellsOf t0=1) (ht:P.underlying t0=some (.slice t))
  (hs:P.underlying t=some (.struct #[f0,f1])) (hf:(f0.offset,P.cellsOf f0.type,f1.offset,P.cellsOf f1.type)=(0,1,1,1)) (hC:P.cellsOf t=2) (h0:P.underlying f0.type=some (.int .i64)) (h1:P.underlying f1.type=some (.int .i64))
  (hv:Value.okWide P W r b0 t8 v) (h:DataW.Trod g P W 0 (λ_=>true) true t8 v d p) (hb:Rows.uptoBulk d<=1048576):∃(z:Nat) (A:ze) (n c:Nat) (R:Nat->ze×Nat×Nat×List (Int×Int)),v=.agg #[.int .u8 (z:Int),.slice A n c]/\z<=255/\uB W A n c R:=by
 obtain⟨v0,v1,y0,y1,n,rfl,rfl,rfl,e0,e1⟩:=Go.Joins.open_agg2 k a i hv h;obtain⟨z,hz,_,wz⟩:=DataW.trod_int k0 e0;simp only [List.cons.injEq,and_true] at hz;subst hz;have bz:=bounds_u8 wz;obtain⟨A,m,c,R,rfl,hR⟩:=U9 o j ht hs hf hC h0 h1 e1 (by simp only [Rows.uptoBulk,Rows.uptoBulkAll] at hb;omega);exact⟨z.toNat,A,m,c,R,by rw [Int.toNat_of_nonneg bz.1],zb,hR⟩
open Go Go.RowKit Go.Proofs.Tryz
set_option maxHeartbeats 16000000
theorem bA {T:World->Prop}{M:Nat->Prop}(a:∀w,T w->zt w)(h0:M 0->mW T)(h1:M 1->mX T)(h2:M 2->mY T):lS T M where
 g0:=h0
 g1:=h1
 g2:=h2
 new p q b b' A D n m c d w hT hA hD hn hm h0:=UQ p q b A n c b' D m d w (a w hT) hA hD hn hm h0
 newNo p q b b' A D n m c d w hT hA hD hn hm h0:=Wz p q b A n c b' D m d w (a w hT) hA hD hn hm h0
 of p q w hT h1 h2 h3 h4 h0:=px p q w (a w hT) h1 h2 h3 h4 h0
 ofNo p q w hT h1 h2 h0:=Pn p q w (a w hT) h1 h2 zb zb h0
 num r b A n c E k f w hT h hf:=UR r b A n c E k f w (a w hT) h hf
 den r b A n c E k f w hT h hf:=ZJ r b A n c E k f w (a w hT) h hf
 sign r b A n c E k f w hT h hf:=Zo r b A n c E k f w (a w hT) h hf
 zero r b A n c E k f w hT h hf:=uU r b A n c E k f w (a w hT) h hf
 isInt r b A n c E k f w hT h hf:=p9 r b A n c E k f w (a w hT) h hf
 neg r b A n c E k f w hT h hf:=oh r b A n c E k f w (a w hT) h hf
 inv r b A n c E k f w hT h hf h0:=cF r b A n c E k f w (a w hT) h hf h0
 invNo r b A n c E k f w hT h hf h0:=Rt r b A n c E k f w (a w hT) h hf h0
 add r s b b' A A' n n' c c' E E' k k' f f' w hT h h' hf hf':=cE r s b A n c E k f b' A' n' c' E' k' f' w (a w hT) h h' hf hf'
 sub r s b b' A A' n n' c c' E E' k k' f f' w hT h h' hf hf':=US r s b A n c E k f b' A' n' c' E' k' f' w (a w hT) h h' hf hf'
 cmp r s b b' A A' n n' c c' E E' k k' f f' w hT h h' hf hf':=UO r s b A n c E k f b' A' n' c' E' k' f' w (a w hT) h h' hf hf'
 same r s b b' A A' n n' c c' E E' k k' f f' w hT h h' hf hf':=VL r s b A n c E k f b' A' n' c' E' k' f' w (a w hT) h h' hf hf'
open Go Go.RowKit Go.Proofs.Tryz
set_option maxHeartbeats 16000000
set_option maxRecDepth 100000
theorem uH {zs:List Int}(h:∀z ∈ zs,-9223372036854775808<=z/\z<=9223372036854775807):zE 1 (x5 zs):=λx hx=>by
 obtain⟨z,hz,rfl⟩:=List.mem_map.1 hx;exact zn.whole (dE (h z hz).1 (h z hz).2) zf
theorem lD (zs:List Int)(n:Nat)(hn:zs.length=n){w:World}{g:Nat}{t:TypeId}(h:zh w g t (zs.map (Value.int .i64)).toArray)(hz:∀z ∈ zs,-9223372036854775808<=z/\z<=9223372036854775807):sF w (some ⟨g,0,none⟩) n zs:=by
 subst hn;exact⟨rfl,λi hi=>by
  rw [qQ,qY hi];exact hz _ (xH hi),λi hi=>⟨_,rfl,by
  rw [xk,h.cell,qQ,qY hi];simp [hi]⟩⟩
theorem gu:lS zt (λ_=>False):=bA (λ_ h=>h) (λh=>h.elim) (λh=>h.elim) (λh=>h.elim)
open Go Go.RowKit Go.Proofs.Tryz
set_option maxHeartbeats 16000000
set_option maxRecDepth 100000
def Z3 (m:Nat)(z:Int)(w:World)(M:List (List Rat))(e:Ending)(w':World):Prop:=∃(A:ze) (c:Nat),e=.returned (.tuple #[.agg #[.slice A 2 c,.int .i64 z],.bool true])/\xF w' A 2 c m M/\(∀ad,A=some ad->w.heap.size<=ad.block)/\Below w.heap.size w w'
theorem xc.of_sz {M:List (List Rat)}(h:z7 K M)(hd:zO M n m):xc (1+(m+1)*K) M:=⟨λrow hr=>(ie (by rw [hd.cols row hr];exact qX _) (h row hr)).1,λrow hr x hx=>(ie (by rw [hd.cols row hr];exact qX _) (h row hr)).2 x hx⟩
def E1:List (List Rat):=[x5 [1,2,0],x5 [0,0,1]]
def E2:List (List Rat):=[x5 [1,2],x5 [3,4]]
def E3:List (List Rat):=[x5 [1,1],x5 [1,1]]
theorem d2 (h1:xs.length=m)(h2:ys.length=m):zO [xs,ys] 2 m:=⟨rfl,λL hL=>by
 simp at hL;rcases hL with rfl|rfl
 ·exact h1
 ·exact h2⟩
theorem gE (h1:zE K xs)(h2:zE K ys):z7 K [xs,ys]:=λL hL=>by
 simp at hL;rcases hL with rfl|rfl
 ·exact h1
 ·exact h2
section
variable {A B V Q:ze}{c d cv q:Nat}{M:List (List Rat)}{xs:List Rat}{w:World}
theorem lk (hT:zt w)(h:yx (z8 zo) w Q 2 M)(hd:zO M 2 2)(z:z7 1 M):Calls prog 35 #[.int .i64 2,.slice Q 2 q] w (Z3 2 2 w M):=Z2 (m:=2) hT h hd zf zf z zf
end
open Go Go.RowKit Go.Proofs.Tryz
set_option maxHeartbeats 16000000
set_option maxRecDepth 100000
theorem zR.rest {w:World}{ad:Addr}{k c:Nat}(h:zR w (some ad) n c xs)(hk:k<=n):zR w (some (ad.add (k*3))) (n - k) (c - k) (xs.drop k):=
 ⟨by rw [xZ,h.len],by have:=h.fits;omega,by have:=h.most;omega,λi x hi=>by
  rw [YR] at hi;obtain⟨ad',b,B,m,d,F,u,v,e,h1,h2,h3,h4,h5⟩:=h.num _ x hi;injection e with e;subst e;have ea:∀j,(ad.add (k*3)).add j=ad.add (k*3+j):=λj=>gW _ _ _;refine⟨_,b,B,m,d,F,u,v,rfl,by rw [yk];exact h1,?_,?_,?_,h5⟩
  ·rw [ea,show k*3+i*3=(k+i)*3 by omega];exact h2
  ·rw [ea,show k*3+(i*3+1)=(k+i)*3+1 by omega];exact h3
  ·rw [ea,show k*3+(i*3+2)=(k+i)*3+2 by omega];exact h4⟩
open Go Go.RowKit Go.Proofs.Tryz
set_option maxHeartbeats 16000000
set_option maxRecDepth 100000
theorem cN {L k:Nat}{S:List (List Rat)}(z:z7 L S)(hd:zO S n m)(hk:k<=n)(hm:k<=m)(hL:1<=L):zn L (zD (zl S) k):=by
 unfold zD
 split
 ·exact(LI.one.up hL).szq hL
 ·exact z.at_ hd zb zb
theorem rC {a p:Rat}(hx:x=0)(hl:ys.length=zs.length):zT (a / p) ys=zT p⁻¹ (vZ (zT a ys) (-x) zs):=by
 have e:∀{L M:List Rat},L.length=M.length->(∀j,j<L.length->L.getD j 0=M.getD j 0)->L=M:=fun{L M} h1 h2=>by
  apply YP h1;intro j a b;have:=h2 j a;rw [qQ,qQ,qY a,qY b] at this;exact this
 have l1:(zT a ys).length=ys.length:=by unfold zT;rw [QH]
 refine e (by unfold zT vZ;rw [QH,QH,jX,QH,hl,Nat.min_self]) λj hj=>?_;have hj:j<ys.length:=by unfold zT at hj;rw [QH] at hj;exact hj
 rw [oc,oc,Zk (by rw [l1];exact hj) zb,oc,hx]
 grind
section
variable {w:World}{Q:ze}{n q m k L:Nat}{S:List (List Rat)}
theorem dY (h:yx (z8 zo) w Q n S)(hd:zO S n m)(hk:k<n)(i:k<m):
  Calls prog 45 #[.slice Q n q,.int .i64 (k:Int)] w (yi w (zl S k k)):=by
 obtain⟨a,g,-⟩:=zu w 52 #[.bool false,.slice none 0 0,.slice none 0 0];obtain⟨ad,C,d,rfl,-,h0,hv⟩:=h.get (y7 zZ) a hk (hd.row hk);have hv:zR _ C m d (S.getD k []):=hv;obtain⟨ae,b1,B1,m1,d1,E1,u1,v1,rfl,-,q0,q1,q2,hx⟩:=hv.get (qZ _ _) i;have hx:zo _ (zl S k k) b1 B1 m1 d1 E1 u1 v1:=hx;have i1:(0:Int)<=(k:Int):=zb;have i2:(k:Int)<(n:Int):=zb;have i3:(k:Int)<(m:Int):=zb;have d9:decide ((k:Int)<0)=false:=decide_eq_false zb;obtain⟨sc0,sf0,sc1,sf1,sc2,sf2⟩:=zY g (.bool b1) (.slice B1 m1 d1);obtain⟨r0,r1,r2⟩:=(zu w 52 #[.bool b1,.slice B1 m1 d1,.slice E1 u1 v1]).2.1.c3;have j:=za (zu w 52 #[.bool b1,.slice B1 m1 d1,.slice E1 u1 v1]).1;have HX:zd (zo (w.alloc (.cells #[.bool b1,.slice B1 m1 d1,.slice E1 u1 v1] 52)) (zl S k k) b1 B1 m1 d1 E1 u1 v1):=by
  have hw:=h.get (y7 zZ) (qZ _ _) hk (hd.row hk);obtain⟨ad2,C2,d2,e2,-,o,c⟩:=hw;have c:zR w C2 m d2 (S.getD k []):=c;injection e2 with e2;subst e2;have:=zv a o;rw [h0] at this;injection this with this;injection this with this _ this2;subst this this2;obtain⟨ae2,b2,B2,m2,d3,E2,u2,v2,e3,-,p0,p1,p2,s⟩:=c.get (qZ _ _) i;injection e3 with e3;subst e3;have t0:=zv a p0;have t1:=zv a p1;have t2:=zv a p2;rw [q0] at t0;rw [q1] at t1;rw [q2] at t2;injection t0 with t0;injection t0 with t0;injection t1 with t1;injection t1 with a1 a2 a3;injection t2 with t2;injection t2 with a4 a5 a6;subst t0 a1 a2 a3 a4 a5 a6;exact s.below (zu w 52 _).1
 clear h hv hx a g;go_enter func45,ntmps45;go_wp2;refine bodyPost_ret (v:=.agg #[.bool b1,.slice B1 m1 d1,.slice E1 u1 v1]) (by simp [results,results45,go_sem,r0,r1,r2]) rfl ?_;exact⟨_,_,_,_,_,_,_,rfl,HX.o,j.o⟩
theorem Sq (hT:zt w):
  Calls prog 45 #[.slice Q n q,.int .i64 (-1)] w (yi w 1):=by
 obtain⟨a,c,-⟩:=zu w 52 #[.bool false,.slice none 0 0,.slice none 0 0];have HT:=za (hT.on a);have HB:=za a;have HK:=za c;have d9:decide ((-1:Int)<0)=true:=zf;clear hT a c;go_enter func45,ntmps45;go_wp2_with fail;(with_reducible refine(jo 1 _ HT.o zf zf).mono ?_);rintro eo w2 ⟨b1,B1,m1,d1,E1,u1,v1,rfl,hx,hb⟩;rw [Zc] at hx;have hk:=zg hb HK.o;obtain⟨sc0,sf0,sc1,sf1,sc2,sf2⟩:=zY hk (.bool b1) (.slice B1 m1 d1);obtain⟨r0,r1,r2⟩:=(z6 hk (.bool b1) (.slice B1 m1 d1) (.slice E1 u1 v1)).c3;have HG : zd (yi w 1 (.returned (.agg #[.bool b1,.slice B1 m1 d1,.slice E1 u1 v1])) (((w2.setCell ⟨w.heap.size,0,none⟩ (.bool b1)).setCell ⟨w.heap.size,1,none⟩ (.slice B1 m1 d1)).setCell ⟨w.heap.size,2,none⟩ (.slice E1 u1 v1))) :=
  ⟨_,_,_,_,_,_,_,rfl,yy hk (y3 (zV.s3 _ _ _ _ _ _ _)) (zP.of_far (wB _ _ _ _ _)) hx,wF _ _ _ (qX _) (zc HB.o hb)⟩
 clear hb hk hx HB HK HT;go_wp2;refine bodyPost_ret (v:=.agg #[.bool b1,.slice B1 m1 d1,.slice E1 u1 v1]) (by simp [results,results45,go_sem,r0,r1,r2]) rfl ?_;exact HG.o
theorem dP {z:Int}(hz:z=(k:Int) - 1)(hT:zt w)(h:yx (z8 zo) w Q n S)(hd:zO S n m)(hk:k<=n)(hkm:k<=m):
  Calls prog 45 #[.slice Q n q,.int .i64 z] w (yi w (zD (zl S) k)):=by
 subst hz;cases k with
 |zero=>exact Sq hT
 |succ k=>rw [show((k+1:Nat):Int) - 1=(k:Int) by omega];exact dY h hd zb zb
theorem eC {S1 S2:ze}{s c1 c2:Nat}{bx:Bool}{Bx Ex:ze}{mx dx ux vx:Nat}(hT:zt w)(h:yx (z8 zo) w Q n S)(hd:zO S n m)(hk:k<n)(J:k<m)(zS:z7 L S)(hs:zR w S1 s c1 ys)(zy:zE L ys)(hx:zo w x bx Bx mx dx Ex ux vx)(zx:zn L x)(ho:zR w S2 s c2 zs)(zz:zE L zs)(hp:zD (zl S) k≠0)(nF:s<=1073741824)(hk9:k<=1048576)(bg:1<=L)(hL:L<=8388608):
  Calls prog 91 #[.slice Q n q,.int .i64 (k:Int),.slice S1 s c1,.agg #[.bool bx,.slice Bx mx dx,.slice Ex ux vx],.slice S2 s c2] w (tZ w s (zT (zD (zl S) k)⁻¹ (vZ (zT (zl S k k) ys) (-x) zs))):=by
 have Z:=zj w (λw' hb=>dY (q:=q) (h.below (y7 zZ) hb) hd hk J);have aa:=zj w (λw' hb=>dP (q:=q) (k:=k) rfl (hT.on hb) (h.below (y7 zZ) hb) hd (qG hk) (qG J));have B:=za (zS.at_ hd hk J);have v:=za (cN zS hd (qG hk) (qG J) bg);obtain⟨a,ha⟩:∃a,zl S k k=a:=⟨_,rfl⟩;obtain⟨p,ay⟩:∃p,zD (zl S) k=p:=⟨_,rfl⟩;rw [ha] at Z B⊢;rw [ay] at aa v hp⊢;have an:=za hp;have aq:=zj w (λw' hb=>hs.keep hb);have bc:=zj w (λw' hb=>ho.keep hb);have ac:=za zy;have ar:=za zz;have H:=za zx;have HX:=zj w (λw' hb=>hx.below hb);have HT:=zj w (λw' hb=>hT.on hb);have ba:zd (ys.length=zs.length):=hs.len.trans ho.len.symm;have a9:zd ((vZ (zT a ys) (-x) zs).length=s):=by show _=_;unfold vZ zT;rw [jX,QH,hs.len,ho.len,Nat.min_self]
 have i1:(0:Int)<=(k:Int):=zb;have HB:=za (qZ w.heap.size w);clear hT h hs ho hx zy zz zx zS ha ay hp;go_enter func91,ntmps91;obtain⟨g,i,-⟩:=zu w 52 #[.bool bx,.slice Bx mx dx,.slice Ex ux vx];have HB:=za (zc HB.o g);have c:=za (i);obtain⟨a3,a4,a5⟩:=i.c3;clear g i;go_wp2_with fail;clear a3 a4 a5;generalize w.alloc (.cells #[.bool bx,.slice Bx mx dx,.slice Ex ux vx] 52)=W3 at*;by_cases hz:x=0
 ·have G:=za (decide_eq_true hz);have a8:=za (rC (a:=a) (p:=p) hz ba.o);clear hz;(with_reducible refine(iu (t:=true) G.o (HT.o _ HB.o) (HX.o _ HB.o) H.o).mono ?_);rintro e X4 ⟨rfl,hb⟩;have HB:=za (zc HB.o hb);clear hb ;clear a9 G;go_wp2_with fail;have HS5:zd (zn (L) (a)):=B.o;(with_reducible refine(Z.o _ HB.o).mono ?_);rintro e X6 ⟨b5,A5,n5,c5,E5,k5,f5,rfl,az,hb⟩;have HB:=za (zc HB.o hb);have u:=za (az);clear hb az;go_wp2_with fail;have ap:zd (zn (L) (p)):=v.o;(with_reducible refine(aa.o _ HB.o).mono ?_);rintro e X8 ⟨b7,A7,n7,c7,E7,k7,f7,rfl,E,hb⟩;have HB:=za (zc HB.o hb);have u:=za (u.o.below hb);have d:=za (E);clear hb E;go_wp2_with fail;have F:zd (zn (L+L) (a / p)):=B.o.div v.o;(with_reducible refine(uJ a p b5 A5 n5 c5 E5 k5 f5 b7 A7 n7 c7 E7 k7 f7 _ (HT.o _ HB.o) u.o d.o (B.o.fit u.o zb) (v.o.fit d.o zb) an.o).mono ?_);rintro e I ⟨b9,A9,n9,c9,E9,k9,f9,rfl,a0,hb⟩;have HB:=za (zc HB.o hb);have u:=za (u.o.below hb);have d:=za (d.o.below hb);have ab:=za (a0);clear hb a0;clear u d;obtain⟨g,i,-⟩:=zu I 52 #[.bool b9,.slice A9 n9 c9,.slice E9 k9 f9];have HB:=za (zc HB.o g);have ab:=za (ab.o.below g);obtain⟨af,ag,ah⟩:=i.c3;clear g i;go_wp2_with fail;clear af ag ah;generalize I.alloc (.cells #[.bool b9,.slice A9 n9 c9,.slice E9 k9 f9] 52)=W13 at*;generalize I.heap.size=q13 at*;(with_reducible refine(jb (HT.o _ HB.o) ab.o (aq.o _ HB.o) F.o ac.o zb zb zb).mono ?_);rintro e W9 ⟨g9,rfl,z,o,hb⟩;have X:=za (zc HB.o hb);have HO:zd (yh W9 g9 s (zT p⁻¹ (vZ (zT a ys) (-x) zs))):=by show yh _ _ _ _;rw [<-a8.o];exact o
  have Y:=za (qH HB.o.size z);clear hb o z;go_wp2;go_ret;exact⟨g9,rfl,Y.o,HO.o,X.o⟩
 ·have G:=za (decide_eq_false hz);clear hz;(with_reducible refine(iu (t:=false) G.o (HT.o _ HB.o) (HX.o _ HB.o) H.o).mono ?_);rintro e X4 ⟨rfl,hb⟩;have HB:=za (zc HB.o hb);have c:=za (zg hb c.o);clear hb ;go_upto_region 4 with fail;obtain⟨T,U,V⟩:=c.o.c3;have ae:=(qZ X4.heap.size X4).drew;have HB:=za (zc HB.o ae);have c:=za (zg ae c.o);refine rg (zk T (zk U (zk V zQ))) (λhHeld=>?_);clear ae T U V;generalize X4.drew=D6 at*;refine tk 0 ?_;refine tk 1 ?_;refine tk 3 ?_;refine tk 5 ?_;refine tk 7 ?_;have ap:zd (zn (L) (a)):=B.o;refine rc 2 (λKK hK=>?_);go_simp;(with_reducible refine(Z.o _ HB.o).mono ?_);rintro e X8 ⟨b7,A7,n7,c7,E7,k7,f7,rfl,E,hb⟩;refine hK.out _ _ (Cs.below hHeld hb) (λhHeld=>?_);clear hK KK;have HB:=za (zc HB.o hb);have c:=za (zg hb c.o);have d:=za (E);clear hb E;have F:zd (zE (L+L) (zT a ys)):=zE.scale B.o ac.o;refine rc 4 (λKK hK=>?_);go_simp;(with_reducible refine(jb (HT.o _ HB.o) d.o (aq.o _ HB.o) ap.o ac.o zb zb zb).mono ?_);rintro e I ⟨g9,rfl,z,o,hb⟩;refine hK.out _ _ (Cs.below hHeld hb) (λhHeld=>?_);clear hK KK;have HB:=za (zc HB.o hb);have c:=za (zg hb c.o);have d:=za (d.o.below hb);have C:=za (xe o);clear hb z o;have M:zd (zn (L) (-x)):=H.o.neg;refine rc 6 (λKK hK=>?_);go_simp;(with_reducible refine(oh x bx Bx mx dx Ex ux vx _ (HT.o _ HB.o) (HX.o _ HB.o) (H.o.fit (HX.o _ HB.o) zb)).mono ?_);rintro e X12 ⟨b11,A11,n11,c11,E11,k11,f11,rfl,O,hb⟩;refine hK.out _ _ (Cs.below hHeld hb) (λhHeld=>?_);clear hK KK;have HB:=za (zc HB.o hb);have c:=za (zg hb c.o);have d:=za (d.o.below hb);have C:=za (C.o.keep hb);have A:=za (O);clear hb O;have bb:zd (zE (4*L+1) (vZ (zT a ys) (-x) zs)):=(zE.addT F.o M.o ar.o).up zb;refine rc 8 (λKK hK=>?_);go_simp;(with_reducible refine(pT (K:=L+L) (K':=L) (L:=L) (HT.o _ HB.o) C.o A.o (bc.o _ HB.o) F.o M.o ar.o zb zb zb).mono ?_);rintro e X14 ⟨g13,rfl,ax,N,hb⟩;refine hK.out _ _ (Cs.below hHeld hb) (λhHeld=>?_);clear hK KK;have HB:=za (zc HB.o hb);have c:=za (zg hb c.o);have d:=za (d.o.below hb);have C:=za (C.o.keep hb);have A:=za (A.o.below hb);have y:=za (xe N);clear hb ax N;refine tk 9 ?_;refine tk 10 ?_;refine tk 11 ?_;refine tk 12 ?_;refine tk 13 ?_;refine zN ?_;clear hHeld;clear c d C A;go_wp2_with fail;have HS15:zd (zn (L) (p)):=v.o;(with_reducible refine(aa.o _ HB.o).mono ?_);rintro e X16 ⟨bd,a6,bi,be,a7,bh,bf,rfl,P,hb⟩;have HB:=za (zc HB.o hb);have y:=za (y.o.keep hb);have j:=za (P);clear hb P;go_wp2_with fail;have ao:zd (zn (L) (p⁻¹)):=v.o.inv;(with_reducible refine(cF p bd a6 bi be a7 bh bf _ (HT.o _ HB.o) j.o (v.o.fit j.o zb) an.o).mono ?_);rintro e ad ⟨au,al,a2,av,am,a1,aw,rfl,R,hb⟩;have HB:=za (zc HB.o hb);have y:=za (y.o.keep hb);have j:=za (j.o.below hb);have D:=za (R);clear hb R;clear j;obtain⟨g,i,-⟩:=zu ad 52 #[.bool au,.slice al a2 av,.slice am a1 aw];have HB:=za (zc HB.o g);have y:=za (y.o.keep g);have D:=za (D.o.below g);obtain⟨ai,aj,ak⟩:=i.c3;clear g i;go_wp2_with fail;clear ai aj ak;generalize ad.alloc (.cells #[.bool au,.slice al a2 av,.slice am a1 aw] 52)=W21 at*;generalize ad.heap.size=q21 at*;(with_reducible refine(jb (HT.o _ HB.o) D.o y.o ao.o bb.o zb zb zb).mono ?_);rintro e W9 ⟨g9,rfl,z,o,hb⟩;have X:=za (zc HB.o hb);have HO:=za o;have Y:=za (qH HB.o.size z);clear hb o z;go_wp2;go_ret;exact⟨g9,rfl,Y.o,HO.o,X.o⟩
end
open Go Go.RowKit Go.Proofs.Tryz
set_option maxHeartbeats 16000000
def xd (S C:List (List Rat))(x0:List Rat):Nat->List Rat
 |0=>x0
 |k+1=>vL k (zD (zl S) k) (xd S C x0 k) (C.getD k [])
def xo (n:Nat)(S:List (List Rat))(D:Rat)(x:List Rat):Nat->List Rat
 |0=>[]
 |d+1=>((D*x.getD (n - (d+1)) 0 - wP ((S.getD (n - (d+1)) []).drop (n - d)) (xo n S D x d)) / zl S (n - (d+1)) (n - (d+1)))::xo n S D x d
def wi (n:Nat)(S C:List (List Rat))(b:List Rat):List Rat:=zT (zD (zl S) n*zI b)⁻¹ (xo n S (zD (zl S) n) (xd S C (zT (zI b) b) n) n)
structure wu (n K L:Nat)(a:Nat->Nat->Rat)(S C:List (List Rat))(b:List Rat):Prop where
 dS:zO S n n
 dC:zO C n n
 turn:∀i,i<n->∀k,k<n->zl C k i=zl S i k
 inv:wK n n a (zl S)
 det:zD (zl S) n=zH n a
 ali:∀i,i<n->∀j,j<n->LI K (a i j)
 zS:z7 L S
 zC:z7 L C
 len:b.length=n
 tli:LI K (zI b)
 bli:∀i,i<n->LI K (zI b*b.getD i 0)
theorem fz (n:Nat)(S:List (List Rat))(D:Rat)(x:List Rat):∀d,(xo n S D x d).length=d
 |0=>rfl
 |d+1=>by show(_::_).length=_;rw [xJ,fz n S D x d]
theorem rp {n:Nat}{S:List (List Rat)}{D:Rat}{x:List Rat}:∀e d j,(xo n S D x (d+e)).getD (e+j) 0=(xo n S D x d).getD j 0
 |0,d,j=>by rw [xB];rfl
 |e+1,d,j=>by
   rw [show e+1+j=(e+j)+1 by omega,<-xA];show(_::xo n S D x (d+e)).getD (e+j+1) 0=_;rw [List.getD_cons_succ];exact rp e d j
theorem Vh (f:Nat->Rat)(m:Nat):∀d,zq (m+d) (λj=>if m<=j then f j else 0)=zq d λi=>f (m+i)
 |0=>by rw [uE λj hj=>if_neg zb];rfl
 |d+1=>by rw [<-xA,xw,xw,Vh f m d,if_pos zb]
section
variable {n K L:Nat}{a:Nat->Nat->Rat}{S C:List (List Rat)}{b:List Rat}
theorem dN {x0:List Rat}(hC:zO C n n)(hx:x0.length=n):∀c,c<=n->(xd S C x0 c).length=n
 |0,_=>hx
 |c+1,hc=>fV (dN hC hx c zb) (hC.row zb) zb
theorem eG {r:Rat}:(zT r xs).length=xs.length:=by unfold zT;rw [QH]
theorem wu.fwd (h:wu n K L a S C b):tK n (zl S) (λi=>zI b*b.getD i 0) (λc i=>(xd S C (zT (zI b) b) c).getD i 0) where
 ne:=h.inv.ne
 zero:=λi _=>oc _
 step:=λc hc i hi=>by
  have hl:(zT (zI b) b).length=n:=by rw [eG];exact h.len
  show(vL c _ _ _).getD i 0=_;rw [Xn (dN h.dC hl c zb) (h.dC.row hc) hc hi];have e1:(C.getD c []).getD c 0=zl S c c:=h.turn c hc c hc;have e2:(C.getD c []).getD i 0=zl S i c:=h.turn i hi c hc;rw [e1,e2]
theorem wu.xsz (h:wu n K L a S C b)(hn:n<=64){c:Nat}(hc:c<=n):zE (67+65*K) (xd S C (zT (zI b) b) c):=λx hx=>by
 have hl:=dN (S:=S) h.dC (by rw [eG];exact h.len:(zT (zI b) b).length=n) c hc;obtain⟨i,hi,e⟩:=List.mem_iff_getElem.1 hx;have:=h.fwd.sz h.inv hn h.ali h.bli hc (i:=i) zb;rw [<-e,show(xd S C (zT (zI b) b) c)[i]=(xd S C (zT (zI b) b) c).getD i 0 by rw [qQ,qY hi];rfl];exact this.szq zb
def zX (n:Nat)(S C:List (List Rat))(b:List Rat)(j:Nat):Rat:=(xo n S (zD (zl S) n) (xd S C (zT (zI b) b) n) n).getD j 0
theorem p7 {d j:Nat}(hd:d<=n):(xo n S (zD (zl S) n) (xd S C (zT (zI b) b) n) d).getD j 0=zX n S C b (n - d+j):=by
 have:=rp (n:=n) (S:=S) (D:=zD (zl S) n) (x:=xd S C (zT (zI b) b) n) (n - d) d j;rw [show d+(n - d)=n by omega] at this;exact this.symm
theorem wu.rel (h:wu n K L a S C b){k:Nat}(hk:k<n):zq n (λj=>if k<=j then zl S k j*zX n S C b j else 0)=zD (zl S) n*(xd S C (zT (zI b) b) k).getD k 0:=by
 have h0:=h.inv.ne k hk;have e1:=VQ hk (λj=>zl S k j*zX n S C b j) (λ_=>true);simp only [and_true,if_true] at e1;rw [e1];have e2:=Vh (λj=>zl S k j*zX n S C b j) (k+1) (n - (k+1));rw [show k+1+(n - (k+1))=n by omega] at e2;rw [e2];have hz:zX n S C b k=(zD (zl S) n*(xd S C (zT (zI b) b) n).getD k 0 - wP ((S.getD k []).drop (k+1)) (xo n S (zD (zl S) n) (xd S C (zT (zI b) b) n) (n - (k+1)))) / zl S k k:=by
  have:=p7 (n:=n) (S:=S) (C:=C) (b:=b) (d:=n - (k+1)+1) (j:=0) zb;rw [show n - (n - (k+1)+1)+0=k by omega] at this;rw [<-this];show(_::_).getD 0 0=_;rw [List.getD_cons_zero,show n - (n - (k+1)+1)=k by omega,show n - (n - (k+1))=k+1 by omega]
 have c:wP ((S.getD k []).drop (k+1)) (xo n S (zD (zl S) n) (xd S C (zT (zI b) b) n) (n - (k+1)))=zq (n - (k+1)) λi=>zl S k (k+1+i)*zX n S C b (k+1+i):=by
  rw [eV (k:=n - (k+1)) (by rw [xZ,h.dS.row hk]) (fz _ _ _ _ _)];refine ya λi _=>?_;rw [ZC,p7 zb,show n - (n - (k+1))+i=k+1+i by omega];rfl
 have hx:(xd S C (zT (zI b) b) n).getD k 0=(xd S C (zT (zI b) b) k).getD k 0:=h.fwd.late' hk zb (qX n);rw [hz,c,hx]
 grind
theorem wu.solves (h:wu n K L a S C b):∀i,i<n->zq n (λj=>a i j*zX n S C b j)=zH n a*(zI b*b.getD i 0):=by
 rw [<-h.det];exact h.fwd.solves h.inv λk hk=>h.rel hk
theorem wu.dne (h:wu n K L a S C b):zD (zl S) n≠0:=h.inv.pr (qX n)
theorem wu.zsz (h:wu n K L a S C b)(hn:n<=64){k:Nat}(hk:k<n):LI (65+64*K) (zX n S C b k):=(RK hn h.ali h.bli (by rw [<-h.det];exact h.dne) h.solves hk).2
theorem wu.bsz (h:wu n K L a S C b)(hn:n<=64){d:Nat}(hd:d<=n):zE (65+64*K) (xo n S (zD (zl S) n) (xd S C (zT (zI b) b) n) d):=λx hx=>by
 have hl:=fz n S (zD (zl S) n) (xd S C (zT (zI b) b) n) d;obtain⟨i,hi,e⟩:=List.mem_iff_getElem.1 hx;rw [<-e,show(xo n S (zD (zl S) n) (xd S C (zT (zI b) b) n) d)[i]=(xo n S (zD (zl S) n) (xd S C (zT (zI b) b) n) d).getD i 0 by rw [qQ,qY hi];rfl,p7 hd];exact(h.zsz hn zb).szq zb
theorem wu.dsz (h:wu n K L a S C b)(hn:n<=64):LI (65+64*K) (zD (zl S) n):=by
 rw [h.det];refine(LI.det_ hn h.ali).up ?_;have:n*(K+1)<=64*(K+1):=qS _ hn;omega
theorem wu.tne (h:wu n K L a S C b):zI b≠0:=dK (by decide+kernel)
theorem wu.sol (h:wu n K L a S C b){i:Nat}(hi:i<n):zq n (λj=>a i j*(wi n S C b).getD j 0)=b.getD i 0:=by
 have h1:=h.solves i hi;have h2:=h.dne;have h3:=h.tne;have e:∀j,(wi n S C b).getD j 0=(zD (zl S) n*zI b)⁻¹*zX n S C b j:=λj=>oc _;have e2:zq n (λj=>a i j*(wi n S C b).getD j 0)=(zD (zl S) n*zI b)⁻¹*zq n λj=>a i j*zX n S C b j:=by
  rw [wM];refine ya λj _=>?_;rw [e];grind
 rw [e2,h1,<-h.det];have h4:zD (zl S) n*zI b≠0:=λx=>by
  rcases Rat.mul_eq_zero.1 x with x|x
  ·exact h2 x
  ·exact h3 x
 grind
theorem aQ:(wi n S C b).length=n:=by unfold wi;rw [eG,fz]
end
