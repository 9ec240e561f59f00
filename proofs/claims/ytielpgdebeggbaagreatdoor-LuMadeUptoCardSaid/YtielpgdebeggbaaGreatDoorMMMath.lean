/- What this claim leans on. -/
import Derived.Test.YtielpgdebeggbaaGreatDoorMVArgs
set_option linter.unusedVariables false
set_option linter.unusedSimpArgs false
namespace Go.Proofs.YtielpgdebeggbaaGreatDoor
open Go Go.RowKit Go.Proofs.Tryz
set_option maxHeartbeats 16000000
variable {M:List (List Rat)}{zs:List Int}{xs:List Rat}{K c k m n:Nat}{f:Nat->Rat}{w:World}{A:ze}
def zt (k:Nat)(f:Nat->Rat):Rat:=uU ((List.range k).map f)
theorem eF (f:Nat->Rat):zt 0 f=0:=rfl
theorem Pe (rs:List Rat)(r:Rat):uU (rs++[r])=uU rs+r:=by
 unfold uU;rw [yH];rfl
theorem x4 (k:Nat)(f:Nat->Rat):zt (k+1) f=zt k f+f k:=by
 unfold zt;rw [XE,yO,yQ,List.map_nil,Pe]
theorem zU {f g:Nat->Rat}(h:∀i,i<k->f i=g i):zt k f=zt k g:=by
 unfold zt;congr 1;exact List.map_congr_left λi hi=>h i (List.mem_range.1 hi)
theorem vS (h:∀i,i<k->f i=0):zt k f=0:=by
 induction k with
 |zero=>rfl
 |succ k ih=>rw [x4,ih (λi hi=>h i za),h k za,xY]
theorem R4 (a b c d:Rat):(a+b)+(c+d)=(a+c)+(b+d):=by
 rw [Rat.add_assoc,Rat.add_assoc,<-Rat.add_assoc b c d,<-Rat.add_assoc c b d,Rat.add_comm b c]
theorem sx (k:Nat)(f g:Nat->Rat):zt k (λi=>f i+g i)=zt k f+zt k g:=by
 induction k with
 |zero=>exact(xY 0).symm
 |succ k ih=>rw [x4,x4,x4,ih,R4]
theorem wJ (k:Nat)(a:Rat)(f:Nat->Rat):a*zt k f=zt k (λi=>a*f i):=by
 induction k with
 |zero=>exact xL a
 |succ k ih=>rw [x4,x4,Rat.mul_add,ih]
theorem P3 (k:Nat)(a:Rat)(f:Nat->Rat):zt k f*a=zt k (λi=>f i*a):=by
 induction k with
 |zero=>exact XL a
 |succ k ih=>rw [x4,x4,Rat.add_mul,ih]
theorem iO (n k:Nat)(f:Nat->Nat->Rat):zt n (λi=>zt k (λj=>f i j))=zt k (λj=>zt n (λi=>f i j)):=by
 induction n with
 |zero=>exact(vS λi _=>rfl).symm
 |succ n ih=>
   rw [x4,ih,<-sx];exact zU λj _=>(x4 n λi=>f i j).symm
theorem P4 (hc:c<k)(f:Nat->Rat):zt k (λi=>f i*(if i=c then 1 else 0))=f c:=by
 induction k with
 |zero=>omega
 |succ k ih=>
   rw [x4];by_cases h:c=k
   ·subst h;rw [if_pos rfl,Rat.mul_one,vS λi hi=>by rw [if_neg za,xL],YQ]
   ·rw [if_neg za,xL,xY,ih za]
theorem eC:∀{k:Nat} {xs ys:List Rat},xs.length=k->ys.length=k->uX xs ys=zt k λi=>xs.getD i 0*ys.getD i 0
 |k,xs,ys,hx,hy=>by
   unfold uX zt;congr 1;apply yI
   ·simp [hx,hy]
   ·intro i h1 h2;have h3:i<k:=by simpa using h2
    rw [List.getElem_zipWith,List.getElem_map,List.getElem_range,qQ,qQ,qY za,qY za];rfl
def wg (n m:Nat)(f:Nat->Nat->Rat):List (List Rat):=(List.range n).map λr=>(List.range m).map (f r)
def zl (M:List (List Rat))(r c:Nat):Rat:=(M.getD r []).getD c 0
structure zM (M:List (List Rat))(n m:Nat):Prop where
 rows:M.length=n
 cols:∀L ∈ M,L.length=m
theorem zM.row {m:Nat}(h:zM M n m){r:Nat}(hr:r<n):(M.getD r []).length=m:=by
 have hl:=h.rows;rw [qQ,qY za];exact h.cols _ (xU _)
theorem iP (n m:Nat)(f:Nat->Nat->Rat):zM (wg n m f) n m:=⟨by simp [wg],λL hL=>by
 obtain⟨r,_,rfl⟩:=List.mem_map.1 hL;simp⟩
theorem ow {f:Nat->Nat->Rat}{r:Nat}(hr:r<n):(wg n m f).getD r []=(List.range m).map (f r):=by
 unfold wg;rw [qQ,qW,xB hr];rfl
theorem Qx (hc:c<m):((List.range m).map f).getD c 0=f c:=by
 rw [qQ,qW,xB hc];rfl
theorem gH {f:Nat->Nat->Rat}{r:Nat}(hr:r<n)(hc:c<m):zl (wg n m f) r c=f r c:=by
 unfold zl;rw [ow hr,Qx hc]
theorem Qy (h:xs.length=m):(List.range m).map (λc=>xs.getD c 0)=xs:=by
 subst h;apply yI
 ·simp
 ·intro i h1 h2;rw [List.getElem_map,List.getElem_range,qQ,qY h2];rfl
theorem zM.eq (h:zM M n m):wg n m (zl M)=M:=by
 have hl:=h.rows;unfold wg;apply yI
 ·simp [hl]
 ·intro i h1 h2;rw [List.getElem_map,List.getElem_range];have e:M.getD i []=M[i]:=by rw [qQ,qY h2];rfl
  show(List.range m).map (λc=>(M.getD i []).getD c 0)=M[i];rw [e];exact Qy (h.cols _ (xU h2))
def qb (n:Nat)(M:List (List Rat))(c:Nat):List Rat:=(List.range n).map λr=>zl M r c
theorem qc (n:Nat)(M:List (List Rat))(c:Nat):(qb n M c).length=n:=by simp [qb]
def fL (n m:Nat)(M:List (List Rat)):List (List Rat):=wg m n λr c=>zl M c r
def aW (n k m:Nat)(A B:List (List Rat)):List (List Rat):=wg n m λr c=>uX (A.getD r []) (qb k B c)
def te (n:Nat):List (List Rat):=wg n n λr c=>if r=c then 1 else 0
def wN (M:List (List Rat))(v:List Rat):List Rat:=M.map λL=>uX L v
theorem qh (m:Nat):zM [] 0 m:=⟨rfl,λL hL=>by cases hL⟩
set_option maxRecDepth 100000
theorem vB {L:Nat}{r:Rat}{s:Bool}{D:ze}{e9:Nat}{U:ze}{u v:Nat}(hT:zu w)(hr:zo w r s D m e9 U u v)(ha:zR w A n c xs)(zr:zn L r)(hx:zD K xs)(hn:n<=1073741824:=by omega)(hK:K<=67108864:=by omega)(hL:L<=67108864:=by omega):
  Calls prog 87 #[.agg #[.bool s,.slice D m e9,.slice U u v],.slice A n c] w (sA w n (zL r xs)):=by
 have P:=ha.len;have E:(zL r xs).length=n:=by unfold zL;rw [QH];exact P
 have z:∀i,i<n->(zL r xs)[i]?=some (r*xs.getD i 0):=λi hi=>by
  unfold zL;rw [qW,qQ,qY za];rfl
 have Y:zd (∀i,i<n->zn K (xs.getD i 0)):=λi hi=>hx.at_ za;unfold sA;obtain⟨zs,R⟩:∃zs,zL r xs=zs:=⟨_,rfl⟩;rw [R] at z E⊢;have HG:=zb z;have I:=zb E;have aa:=zb zr;obtain⟨J,M,bz⟩:=zA w 52 #[.bool s,.slice D m e9,.slice U u v];have HA:=zb ha;have HT:=zk w (λw' hb=>hT.on hb);have HR:=zk w (λw' hb=>hr.below hb);have y:=zb J;have B:=zb M;obtain⟨Z,hZ⟩:=nA n za;have ah:=λW=>(hZ W).1;have o:=zb (λW=>(hZ W).2);clear hT hr ha zr hx P E R z hZ J M bz;have i0:(0:Int)<=(n:Int):=za;go_enter func87,ntmps87;go_wp2_with fail;clear ah;obtain⟨W0,j⟩:∃W,w.alloc (.cells #[.bool s,.slice D m e9,.slice U u v] 52)=W:=⟨_,rfl⟩;rw [j] at y B;have a:=o.o W0;have N:=y.o;have hsz:W0.heap.size=w.heap.size+1:=by rw [<-j];simp
 simp only [j] at*;have C:Below W0.heap.size W0 (W0.alloc (.cells Z 52)):=(qZ _ W0).alloc (qX _) _;have d:=zg C B.o;have hB:=zc N C;rw [hsz] at a;clear j y B N C hsz o;generalize W0.alloc (.cells Z 52)=W1 at*;obtain⟨gp,O⟩:∃g,w.heap.size+1=g:=⟨_,rfl⟩;rw [O] at a⊢;rw [<-sV 0 zs n] at a;have hwg:w.heap.size+1<=gp:=za;clear O
 go_loopg [13] (n+1) (λg ix wr=>∃(k:Nat),k<=n/\n<g+k/\ix=.int .i64 k/\yf wr gp n (vC 0 zs n k)/\Below w.heap.size w wr/\zh wr w.heap.size 52 #[.bool s,.slice D m e9,.slice U u v])
 case atStart=>exact⟨0,qM _,za,rfl,a,hB,d⟩
 case round=>
  clear a hB d;obtain⟨k,hkn,hg,rfl,a,hB,d⟩:=hrel;by_cases hlt:k<n
  ·obtain⟨ad,b1,B1,m1,d1,E1,u1,v1,rfl,-,ab,ac,ae,hx⟩:=HA.o.get hB hlt;have af:decide ((k:Int)<(n:Int))=true:=decide_eq_true za;have i1:(0:Int)<=(k:Int):=za;have i2:(k:Int)<(n:Int):=za;obtain⟨st,d3,d4⟩:=zA wr 52 #[.bool b1,.slice B1 m1 d1,.slice E1 u1 v1];obtain⟨p0,p1,p2⟩:=d3.c3;obtain⟨g0,g1,g2⟩:=(zg st d).c3;have HX:=zb (hx.below st);have t:=zb (a.keep st);have h:=zb (zc hB st);have H:=zb (zg st d);clear hx a hB st d3 d4 d;go_wp2_with fail;(with_reducible refine(uT (HT.o _ h.o) (HR.o _ h.o) HX.o aa.o (Y.o k hlt) hL hK).mono ?_);rintro e w3 ⟨b3,A3,n3,c3,E3,k3,f3,rfl,Q,hb⟩;clear ab ac ae p0 p1 p2 g0 g1 g2;have F:=t.o.keep hb;have G:=wC.set_ z6 F hlt Q;rw [sR 0 zs n k I.o hlt _ (HG.o k hlt)] at G;obtain⟨q0,q1,q2,sc0,sf0,sc1,sf1,sc2,sf2⟩:=F.ready hlt (.bool b3) (.slice A3 n3 c3);have V:=zb G;have S:=zb (jE (k*3) (k*3+1) (k*3+2) (.bool b3) (.slice A3 n3 c3) (.slice E3 k3 f3) (show w.heap.size<=gp by omega) (zc h.o hb));have T:=zb (zh.far (p:=⟨gp,k*3+2,none⟩) (zh.far (p:=⟨gp,k*3+1,none⟩) (zh.far (p:=⟨gp,k*3,none⟩) (zg hb H.o) (by show w.heap.size≠gp;omega) (.bool b3)) (by show w.heap.size≠gp;omega) (.slice A3 n3 c3)) (by show w.heap.size≠gp;omega) (.slice E3 k3 f3));clear F G hb Q HX t h H;go_wp2;go_roundg (n - k)
   case measure=>omega
   case rel=>exact⟨k+1,za,za,by go_num,V.o,S.o,T.o⟩
  ·have hk:k=n:=za;subst hk;have af:decide ((k:Int)<(k:Int))=false:=zF;have X:=zb (sQ 0 zs k I.o▸a);have h:=zb hB;have ag:w.heap.size<=gp:=za;clear a hB d;go_wp2;go_ret;exact⟨gp,rfl,ag,X.o,h.o⟩
structure tt (w:World)(A:ze)(n:Nat)(zs:List Int):Prop where
 len:zs.length=n
 ints:∀i,i<n-> -9223372036854775808<=zs.getD i 0/\zs.getD i 0<=9223372036854775807
 num:∀i,i<n->∃ad:Addr,A=some ad/\w.cell? (ad.add i)=some (.int .i64 (zs.getD i 0))
def wi (zs:List Int):List Rat:=zs.map λz:Int=>(z:Rat)
theorem kJ (hT:zu w)(ha:tt w A n zs)(hn:n<=1073741824:=by omega):
  Calls prog 36 #[.slice A n c] w (sA w n (wi zs)):=by
 have C:=ha.len;have o:(wi zs).length=n:=by unfold wi;rw [QH];exact C
 have m:∀i,i<n->(wi zs)[i]?=some ((zs.getD i 0:Int):Rat):=λi hi=>by
  unfold wi;rw [qW,qQ,qY za];rfl
 have HI:=zb ha.ints;unfold sA;obtain⟨ys,F⟩:∃ys,wi zs=ys:=⟨_,rfl⟩;rw [F] at m o⊢;have HG:=zb m;have v:=zb o;have HA:=zb ha.num;have HT:=zk w (λw' hb=>hT.on hb);obtain⟨Z,hZ⟩:=nA n za;have K:=λW=>(hZ W).1;have h:=zb (λW=>(hZ W).2);clear hT ha C o F m hZ;have i0:(0:Int)<=(n:Int):=za;go_enter func36,ntmps36;go_wp2_with fail;clear K;have a:=h.o w;have hB:Below w.heap.size w (w.alloc (.cells Z 52)):=(qZ _ w).alloc (qX _) _;obtain⟨gp,B⟩:∃g,w.heap.size=g:=⟨_,rfl⟩;have E:w.heap.size<=gp:=za;rw [B] at a⊢;rw [<-sV 0 ys n] at a;generalize w.alloc (.cells Z 52)=W1 at*;clear B h
 go_loopg [11] (n+1) (λg ix wr=>∃(k:Nat),k<=n/\n<g+k/\ix=.int .i64 k/\yf wr gp n (vC 0 ys n k)/\Below w.heap.size w wr)
 case atStart=>exact⟨0,qM _,za,rfl,a,hB⟩
 case round=>
  clear a hB;obtain⟨k,hkn,hg,rfl,a,hB⟩:=hrel;by_cases hlt:k<n
  ·obtain⟨ad,rfl,hc⟩:=HA.o k hlt;have y:=zw hB hc;obtain⟨z1,z2⟩:=HI.o k hlt;have u:=zb (HG.o k hlt);obtain⟨z,hz⟩:∃z,zs.getD k 0=z:=⟨_,rfl⟩;rw [hz] at y z1 z2 u;have J:decide ((k:Int)<(n:Int))=true:=decide_eq_true za;have i1:(0:Int)<=(k:Int):=za;have i2:(k:Int)<(n:Int):=za;have j:=zb a;have d:=zb hB;clear a hB hc hz;go_wp2_with fail;(with_reducible refine(tX z _ (HT.o _ d.o) z1 z2).mono ?_);rintro e w3 ⟨b3,A3,n3,c3,E3,k3,f3,rfl,D,hb⟩;clear y;have s:=j.o.keep hb;have t:=wC.set_ z6 s hlt D;rw [sR 0 ys n k v.o hlt _ u.o] at t;obtain⟨q0,q1,q2,sc0,sf0,sc1,sf1,sc2,sf2⟩:=s.ready hlt (.bool b3) (.slice A3 n3 c3);have H:=zb t;have G:=zb (jE (k*3) (k*3+1) (k*3+2) (.bool b3) (.slice A3 n3 c3) (.slice E3 k3 f3) E (zc d.o hb));clear s t hb D j d;go_wp2;go_roundg (n - k)
   case measure=>omega
   case rel=>exact⟨k+1,za,za,by go_num,H.o,G.o⟩
  ·have hk:k=n:=za;subst hk;have J:decide ((k:Int)<(k:Int))=false:=zF;have I:=zb (sQ 0 ys k v.o▸a);have d:=zb hB;clear a hB;go_wp2;go_ret;exact⟨gp,rfl,E,I.o,d.o⟩
theorem UR (hT:zu w)(ha:zR w A n c xs)(hx:zD K xs)(hn:n<=1073741824:=by omega)(hK:K+2<=67108864:=by omega):
  Calls prog 51 #[.slice A n c] w (sA w n xs):=by
 have z:=ha.len;have HG:zd (∀i,i<n->xs[i]?=some (xs.getD i 0)):=λi hi=>by
  rw [qQ,qY za];rfl
 have G:zd (∀i,i<n->zD K [xs.getD i 0]):=λi hi y hy=>by
  rw [List.mem_singleton.1 hy];exact hx.at_ za
 unfold sA;have u:=zb z;have HA:=zb ha;have HT:=zk w (λw' hb=>hT.on hb);obtain⟨Z,hZ⟩:=nA n za;have M:=λW=>(hZ W).1;have j:=zb (λW=>(hZ W).2);clear hT ha hx z hZ;have i0:(0:Int)<=(n:Int):=za;go_enter func51,ntmps51;go_wp2_with fail;clear M;have a:=j.o w;have hB:Below w.heap.size w (w.alloc (.cells Z 52)):=(qZ _ w).alloc (qX _) _;obtain⟨gp,v⟩:∃g,w.heap.size=g:=⟨_,rfl⟩;have B:w.heap.size<=gp:=za;rw [v] at a⊢;rw [<-sV 0 xs n] at a;generalize w.alloc (.cells Z 52)=W1 at*;clear v j
 go_loopg [11] (n+1) (λg ix wr=>∃(k:Nat),k<=n/\n<g+k/\ix=.int .i64 k/\yf wr gp n (vC 0 xs n k)/\Below w.heap.size w wr)
 case atStart=>exact⟨0,qM _,za,rfl,a,hB⟩
 case round=>
  clear a hB;obtain⟨k,hkn,hg,rfl,a,hB⟩:=hrel;by_cases hlt:k<n
  ·obtain⟨ad,b1,B1,m1,d1,E1,u1,v1,rfl,-,H,I,J,hx⟩:=HA.o.get hB hlt;have L:decide ((k:Int)<(n:Int))=true:=decide_eq_true za;have i1:(0:Int)<=(k:Int):=za;have i2:(k:Int)<(n:Int):=za;obtain⟨s1,t1,t2,t3⟩:=yv wr 52 52 #[.bool b1,.slice B1 m1 d1,.slice E1 u1 v1] #[.bool b1,.slice B1 m1 d1,.slice E1 u1 v1];have C:=(zA wr 52 #[.bool b1,.slice B1 m1 d1,.slice E1 u1 v1]).2.1;obtain⟨p0,p1,p2⟩:=C.c3;have t:=zb (US t2 (hx.below s1));have m:=zb (a.keep s1);have d:=zb (zc hB s1);clear hx a hB s1 t1 t2 t3 C;go_wp2_with fail;(with_reducible refine(pT (HT.o _ d.o) t.o (G.o k hlt) zf za).mono ?_);rintro e w3 ⟨b3,A3,n3,c3,E3,k3,f3,rfl,h,hb⟩;clear H I J p0 p1 p2;have h:zo w3 (xs.getD k 0) b3 A3 n3 c3 E3 k3 f3:=by
    have e:uU [xs.getD k 0]=xs.getD k 0:=by rw [ZC,VJ,xY]
    rw [e] at h;exact h
   have o:=m.o.keep hb;have s:=wC.set_ z6 o hlt h;rw [sR 0 xs n k u.o hlt _ (HG.o k hlt)] at s;obtain⟨q0,q1,q2,sc0,sf0,sc1,sf1,sc2,sf2⟩:=o.ready hlt (.bool b3) (.slice A3 n3 c3);have E:=zb s;have D:=zb (jE (k*3) (k*3+1) (k*3+2) (.bool b3) (.slice A3 n3 c3) (.slice E3 k3 f3) B (zc d.o hb));clear o s hb h m d t;go_wp2;go_roundg (n - k)
   case measure=>omega
   case rel=>exact⟨k+1,za,za,by go_num,E.o,D.o⟩
  ·have hk:k=n:=za;subst hk;have L:decide ((k:Int)<(k:Int))=false:=zF;have F:=zb (sQ 0 xs k u.o▸a);have d:=zb hB;clear a hB;go_wp2;go_ret;exact⟨gp,rfl,B,F.o,d.o⟩
theorem Ph (n:Nat)(w:World)(hn:n<=64):Calls prog 78 #[.int .i64 (n:Int)] w (tj w n (List.replicate n 0)):=by
 unfold tj;obtain⟨ys,d⟩:∃ys,List.replicate n (0:Rat)=ys:=⟨_,rfl⟩;obtain⟨Z,hZ⟩:=nA n za;have hmk:=λW=>(hZ W).1;have a:=zb (hZ w).2;rw [d] at a⊢;have hd:decide ((n:Int)<0)=false:=decide_eq_false za;have hd2:decide (64<(n:Int))=false:=decide_eq_false za;have hd3:decide ((n:Int)>64)=false:=decide_eq_false za;have hB:=zb ((qZ _ w).alloc (qX _) (.cells Z 52));clear hZ d;go_enter func78,ntmps78;go_wp2
 go_ret2
 exact⟨_,rfl,qX _,a.o,hB.o⟩
structure gI (w:World)(A:ze)(n:Nat)(Ls:List (List Rat)):Prop where
 len:Ls.length=n
 num:∀i L,Ls[i]?=some L->∃(ad:Addr) (B:ze) (d:Nat),A=some ad/\ad.block<w.heap.size/\w.cell? (ad.add i)=some (.slice B L.length d)/\zR w B L.length d L
theorem gI.below {w':World}{Ls:List (List Rat)}(h:gI w A n Ls)(hb:Below w.heap.size w w'):gI w' A n Ls:=
 ⟨h.len,λi L hi=>by
  obtain⟨ad,B,d,e,h1,h2,h3⟩:=h.num i L hi;exact⟨ad,B,d,e,qJ h1 hb.size,zw hb h2,h3.keep hb⟩⟩
theorem ws {α:Type}{xs:List α}{d:α}(h:k<xs.length):xs[k]?=some (xs.getD k d):=by
 rw [qQ,qY h];rfl
section
variable {K L:Nat}{rs:List Rat}{Ls:List (List Rat)}{A B:ze}{n n' c d:Nat}{w:World}
end
theorem aZ {T:World->Prop}{M:Nat->Prop}(a:∀w,T w->zu w)(h0:M 0->lP T)(h1:M 1->lQ T)(h2:M 2->lR T):kN T M where
 g0:=h0
 g1:=h1
 g2:=h2
 new p q b b' A D n m c d w hT hA hD hn hm h0:=TE p q b A n c b' D m d w (a w hT) hA hD hn hm h0
 newNo p q b b' A D n m c d w hT hA hD hn hm h0:=WR p q b A n c b' D m d w (a w hT) hA hD hn hm h0
 of p q w hT h1 h2 h3 h4 h0:=pV p q w (a w hT) h1 h2 h3 h4 h0
 ofNo p q w hT h1 h2 h0:=PN p q w (a w hT) h1 h2 za za h0
 num r b A n c E k f w hT h hf:=TF r b A n c E k f w (a w hT) h hf
 den r b A n c E k f w hT h hf:=Ym r b A n c E k f w (a w hT) h hf
 sign r b A n c E k f w hT h hf:=Z7 r b A n c E k f w (a w hT) h hf
 zero r b A n c E k f w hT h hf:=th r b A n c E k f w (a w hT) h hf
 isInt r b A n c E k f w hT h hf:=oP r b A n c E k f w (a w hT) h hf
 neg r b A n c E k f w hT h hf:=eX r b A n c E k f w (a w hT) h hf
 inv r b A n c E k f w hT h hf h0:=gC r b A n c E k f w (a w hT) h hf h0
 invNo r b A n c E k f w hT h hf h0:=QF r b A n c E k f w (a w hT) h hf h0
 add r s b b' A A' n n' c c' E E' k k' f f' w hT h h' hf hf':=aG r s b A n c E k f b' A' n' c' E' k' f' w (a w hT) h h' hf hf'
 sub r s b b' A A' n n' c c' E E' k k' f f' w hT h h' hf hf':=TG r s b A n c E k f b' A' n' c' E' k' f' w (a w hT) h h' hf hf'
 cmp r s b b' A A' n n' c c' E E' k k' f f' w hT h h' hf hf':=TC r s b A n c E k f b' A' n' c' E' k' f' w (a w hT) h h' hf hf'
 same r s b b' A A' n n' c c' E E' k k' f f' w hT h h' hf hf':=U6 r s b A n c E k f b' A' n' c' E' k' f' w (a w hT) h h' hf hf'
theorem Q9:tY ul where
 below h hb:=h.below hb
 offg h hk hcs ho:=⟨⟨h.1.1,Vg h.1.2 hk hcs ho⟩,Vg h.2 hk hcs ho⟩
abbrev dE (w:World)(A:ze)(n c:Nat)(xs:List Rat):Prop:=yg ul w A n c xs
theorem dE.keep {w':World}(h:dE w A n c xs)(hb:Below w.heap.size w w'):dE w' A n c xs:=yg.below Q9 h hb
theorem dE.get {wr:World}(h:dE w A n c xs)(hb:Below w.heap.size w wr){i:Nat}(hi:i<n):∃(ad:Addr) (b:Bool) (B:ze) (m d:Nat) (F:ze) (u v:Nat),A=some ad/\ad.block<w.heap.size/\wr.cell? (ad.add (i*3))=some (.bool b)/\wr.cell? ⟨(ad.add (i*3)).block,(ad.add (i*3)).off+1,none⟩=some (.slice B m d)/\wr.cell? ⟨(ad.add (i*3)).block,(ad.add (i*3)).off+2,none⟩=some (.slice F u v)/\ul wr (xs.getD i 0) b B m d F u v:=by
 obtain⟨ad,b,B,m,d,F,u,v,e,h0,h1,h2,h3,h4⟩:=h.at_ hi 0;exact⟨ad,b,B,m,d,F,u,v,e,h0,zw hb h1,zw hb (eU h2),zw hb (Td h3),h4.below hb⟩
theorem uP (h:∀z ∈ zs,-9223372036854775808<=z/\z<=9223372036854775807):zD 1 (wi zs):=λx hx=>by
 obtain⟨z,hz,rfl⟩:=List.mem_map.1 hx;exact zn.whole (bM (h z hz).1 (h z hz).2) zf
theorem kt (zs:List Int)(n:Nat)(hn:zs.length=n){w:World}{g:Nat}{t:TypeId}(h:zh w g t (zs.map (Value.int .i64)).toArray)(hz:∀z ∈ zs,-9223372036854775808<=z/\z<=9223372036854775807):tt w (some ⟨g,0,none⟩) n zs:=by
 subst hn;exact⟨rfl,λi hi=>by
  rw [qQ,qY hi];exact hz _ (xU hi),λi hi=>⟨_,rfl,by
  rw [xv,h.cell,qQ,qY hi];simp [hi]⟩⟩
theorem aY:kN zu (λ_=>False):=aZ (λ_ h=>h) (λh=>h.elim) (λh=>h.elim) (λh=>h.elim)
