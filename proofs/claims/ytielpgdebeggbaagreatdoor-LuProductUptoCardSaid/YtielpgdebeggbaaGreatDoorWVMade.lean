/- What this claim leans on. -/
import Derived.Test.YtielpgdebeggbaaGreatDoorWMMat
set_option linter.unusedVariables false
set_option linter.unusedSimpArgs false
namespace Go.Proofs.YtielpgdebeggbaaGreatDoor
open Go Go.RowKit Go.Proofs.Tryz
set_option maxHeartbeats 16000000
set_option maxRecDepth 100000
variable {p:Int}{L:List (Int×Int)}{xs:List Rat}{K c m n:Nat}{w:World}{A:ze}
theorem jb {L:Nat}{r:Rat}{s:Bool}{D:ze}{e9:Nat}{U:ze}{u v:Nat}(hT:zt w)(hr:zo w r s D m e9 U u v)(ha:zR w A n c xs)(zr:zn L r)(hx:zE K xs)(hn:n<=1073741824:=by omega)(hK:K<=67108864:=by omega)(hL:L<=67108864:=by omega):
  Calls prog 87 #[.agg #[.bool s,.slice D m e9,.slice U u v],.slice A n c] w (tZ w n (zT r xs)):=by
 have P:=ha.len;have E:(zT r xs).length=n:=by unfold zT;rw [QH];exact P
 have z:∀i,i<n->(zT r xs)[i]?=some (r*xs.getD i 0):=λi hi=>by
  unfold zT;rw [qN,qQ,qY zb];rfl
 have Y:zd (∀i,i<n->zn K (xs.getD i 0)):=λi hi=>hx.at_ zb;unfold tZ;obtain⟨zs,R⟩:∃zs,zT r xs=zs:=⟨_,rfl⟩;rw [R] at z E⊢;have HG:=za z;have I:=za E;have aa:=za zr;obtain⟨J,M,bz⟩:=zu w 52 #[.bool s,.slice D m e9,.slice U u v];have HA:=za ha;have HT:=zj w (λw' hb=>hT.on hb);have HR:=zj w (λw' hb=>hr.below hb);have y:=za J;have B:=za M;obtain⟨Z,hZ⟩:=oM n zb;have ah:=λW=>(hZ W).1;have o:=za (λW=>(hZ W).2);clear hT hr ha zr hx P E R z hZ J M bz;have i0:(0:Int)<=(n:Int):=zb;go_enter func87,ntmps87;go_wp2_with fail;clear ah;obtain⟨W0,j⟩:∃W,w.alloc (.cells #[.bool s,.slice D m e9,.slice U u v] 52)=W:=⟨_,rfl⟩;rw [j] at y B;have a:=o.o W0;have N:=y.o;have hsz:W0.heap.size=w.heap.size+1:=by rw [<-j];simp
 simp only [j] at*;have C:Below W0.heap.size W0 (W0.alloc (.cells Z 52)):=(qZ _ W0).alloc (qX _) _;have d:=zg C B.o;have hB:=zc N C;rw [hsz] at a;clear j y B N C hsz o;generalize W0.alloc (.cells Z 52)=W1 at*;obtain⟨gp,O⟩:∃g,w.heap.size+1=g:=⟨_,rfl⟩;rw [O] at a⊢;rw [<-tV 0 zs n] at a;have hwg:w.heap.size+1<=gp:=zb;clear O
 go_loopg [13] (n+1) (λg ix wr=>∃(k:Nat),k<=n/\n<g+k/\ix=.int .i64 k/\yh wr gp n (wX 0 zs n k)/\Below w.heap.size w wr/\zh wr w.heap.size 52 #[.bool s,.slice D m e9,.slice U u v])
 case atStart=>exact⟨0,qW _,zb,rfl,a,hB,d⟩
 case round=>
  clear a hB d;obtain⟨k,hkn,hg,rfl,a,hB,d⟩:=hrel;by_cases hlt:k<n
  ·obtain⟨ad,b1,B1,m1,d1,E1,u1,v1,rfl,-,ab,ac,ae,hx⟩:=HA.o.get hB hlt;have af:decide ((k:Int)<(n:Int))=true:=decide_eq_true zb;have i1:(0:Int)<=(k:Int):=zb;have i2:(k:Int)<(n:Int):=zb;obtain⟨st,d3,d4⟩:=zu wr 52 #[.bool b1,.slice B1 m1 d1,.slice E1 u1 v1];obtain⟨p0,p1,p2⟩:=d3.c3;obtain⟨g0,g1,g2⟩:=(zg st d).c3;have HX:=za (hx.below st);have t:=za (a.keep st);have h:=za (zc hB st);have H:=za (zg st d);clear hx a hB st d3 d4 d;go_wp2_with fail;(with_reducible refine(vP (HT.o _ h.o) (HR.o _ h.o) HX.o aa.o (Y.o k hlt) hL hK).mono ?_);rintro e w3 ⟨b3,A3,n3,c3,E3,k3,f3,rfl,Q,hb⟩;clear ab ac ae p0 p1 p2 g0 g1 g2;have F:=t.o.keep hb;have G:=wn.set_ zZ F hlt Q;rw [tX 0 zs n k I.o hlt _ (HG.o k hlt)] at G;obtain⟨q0,q1,q2,sc0,sf0,sc1,sf1,sc2,sf2⟩:=F.ready hlt (.bool b3) (.slice A3 n3 c3);have V:=za G;have S:=za (kX (k*3) (k*3+1) (k*3+2) (.bool b3) (.slice A3 n3 c3) (.slice E3 k3 f3) (show w.heap.size<=gp by omega) (zc h.o hb));have T:=za (zh.far (p:=⟨gp,k*3+2,none⟩) (zh.far (p:=⟨gp,k*3+1,none⟩) (zh.far (p:=⟨gp,k*3,none⟩) (zg hb H.o) (by show w.heap.size≠gp;omega) (.bool b3)) (by show w.heap.size≠gp;omega) (.slice A3 n3 c3)) (by show w.heap.size≠gp;omega) (.slice E3 k3 f3));clear F G hb Q HX t h H;go_wp2;go_roundg (n - k)
   case measure=>omega
   case rel=>exact⟨k+1,zb,zb,by go_num,V.o,S.o,T.o⟩
  ·have hk:k=n:=zb;subst hk;have af:decide ((k:Int)<(k:Int))=false:=zA;have X:=za (tW 0 zs k I.o▸a);have h:=za hB;have ag:w.heap.size<=gp:=zb;clear a hB d;go_wp2;go_ret;exact⟨gp,rfl,ag,X.o,h.o⟩
structure sF (w:World)(A:ze)(n:Nat)(zs:List Int):Prop where
 len:zs.length=n
 ints:∀i,i<n-> -9223372036854775808<=zs.getD i 0/\zs.getD i 0<=9223372036854775807
 num:∀i,i<n->∃ad:Addr,A=some ad/\w.cell? (ad.add i)=some (.int .i64 (zs.getD i 0))
def x5 (zs:List Int):List Rat:=zs.map λz:Int=>(z:Rat)
theorem lM {zs:List Int}(hT:zt w)(ha:sF w A n zs)(hn:n<=1073741824:=by omega):
  Calls prog 36 #[.slice A n c] w (tZ w n (x5 zs)):=by
 have C:=ha.len;have o:(x5 zs).length=n:=by unfold x5;rw [QH];exact C
 have m:∀i,i<n->(x5 zs)[i]?=some ((zs.getD i 0:Int):Rat):=λi hi=>by
  unfold x5;rw [qN,qQ,qY zb];rfl
 have HI:=za ha.ints;unfold tZ;obtain⟨ys,F⟩:∃ys,x5 zs=ys:=⟨_,rfl⟩;rw [F] at m o⊢;have HG:=za m;have v:=za o;have HA:=za ha.num;have HT:=zj w (λw' hb=>hT.on hb);obtain⟨Z,hZ⟩:=oM n zb;have K:=λW=>(hZ W).1;have h:=za (λW=>(hZ W).2);clear hT ha C o F m hZ;have i0:(0:Int)<=(n:Int):=zb;go_enter func36,ntmps36;go_wp2_with fail;clear K;have a:=h.o w;have hB:Below w.heap.size w (w.alloc (.cells Z 52)):=(qZ _ w).alloc (qX _) _;obtain⟨gp,B⟩:∃g,w.heap.size=g:=⟨_,rfl⟩;have E:w.heap.size<=gp:=zb;rw [B] at a⊢;rw [<-tV 0 ys n] at a;generalize w.alloc (.cells Z 52)=W1 at*;clear B h
 go_loopg [11] (n+1) (λg ix wr=>∃(k:Nat),k<=n/\n<g+k/\ix=.int .i64 k/\yh wr gp n (wX 0 ys n k)/\Below w.heap.size w wr)
 case atStart=>exact⟨0,qW _,zb,rfl,a,hB⟩
 case round=>
  clear a hB;obtain⟨k,hkn,hg,rfl,a,hB⟩:=hrel;by_cases hlt:k<n
  ·obtain⟨ad,rfl,hc⟩:=HA.o k hlt;have y:=zv hB hc;obtain⟨z1,z2⟩:=HI.o k hlt;have u:=za (HG.o k hlt);obtain⟨z,hz⟩:∃z,zs.getD k 0=z:=⟨_,rfl⟩;rw [hz] at y z1 z2 u;have J:decide ((k:Int)<(n:Int))=true:=decide_eq_true zb;have i1:(0:Int)<=(k:Int):=zb;have i2:(k:Int)<(n:Int):=zb;have j:=za a;have d:=za hB;clear a hB hc hz;go_wp2_with fail;(with_reducible refine(jo z _ (HT.o _ d.o) z1 z2).mono ?_);rintro e w3 ⟨b3,A3,n3,c3,E3,k3,f3,rfl,D,hb⟩;clear y;have s:=j.o.keep hb;have t:=wn.set_ zZ s hlt D;rw [tX 0 ys n k v.o hlt _ u.o] at t;obtain⟨q0,q1,q2,sc0,sf0,sc1,sf1,sc2,sf2⟩:=s.ready hlt (.bool b3) (.slice A3 n3 c3);have H:=za t;have G:=za (kX (k*3) (k*3+1) (k*3+2) (.bool b3) (.slice A3 n3 c3) (.slice E3 k3 f3) E (zc d.o hb));clear s t hb D j d;go_wp2;go_roundg (n - k)
   case measure=>omega
   case rel=>exact⟨k+1,zb,zb,by go_num,H.o,G.o⟩
  ·have hk:k=n:=zb;subst hk;have J:decide ((k:Int)<(k:Int))=false:=zA;have I:=za (tW 0 ys k v.o▸a);have d:=za hB;clear a hB;go_wp2;go_ret;exact⟨gp,rfl,E,I.o,d.o⟩
theorem Uc (hT:zt w)(ha:zR w A n c xs)(hx:zE K xs)(hn:n<=1073741824:=by omega)(hK:K+2<=67108864:=by omega):
  Calls prog 51 #[.slice A n c] w (tZ w n xs):=by
 have z:=ha.len;have HG:zd (∀i,i<n->xs[i]?=some (xs.getD i 0)):=λi hi=>by
  rw [qQ,qY zb];rfl
 have G:zd (∀i,i<n->zE K [xs.getD i 0]):=λi hi y hy=>by
  rw [List.mem_singleton.1 hy];exact hx.at_ zb
 unfold tZ;have u:=za z;have HA:=za ha;have HT:=zj w (λw' hb=>hT.on hb);obtain⟨Z,hZ⟩:=oM n zb;have M:=λW=>(hZ W).1;have j:=za (λW=>(hZ W).2);clear hT ha hx z hZ;have i0:(0:Int)<=(n:Int):=zb;go_enter func51,ntmps51;go_wp2_with fail;clear M;have a:=j.o w;have hB:Below w.heap.size w (w.alloc (.cells Z 52)):=(qZ _ w).alloc (qX _) _;obtain⟨gp,v⟩:∃g,w.heap.size=g:=⟨_,rfl⟩;have B:w.heap.size<=gp:=zb;rw [v] at a⊢;rw [<-tV 0 xs n] at a;generalize w.alloc (.cells Z 52)=W1 at*;clear v j
 go_loopg [11] (n+1) (λg ix wr=>∃(k:Nat),k<=n/\n<g+k/\ix=.int .i64 k/\yh wr gp n (wX 0 xs n k)/\Below w.heap.size w wr)
 case atStart=>exact⟨0,qW _,zb,rfl,a,hB⟩
 case round=>
  clear a hB;obtain⟨k,hkn,hg,rfl,a,hB⟩:=hrel;by_cases hlt:k<n
  ·obtain⟨ad,b1,B1,m1,d1,E1,u1,v1,rfl,-,H,I,J,hx⟩:=HA.o.get hB hlt;have L:decide ((k:Int)<(n:Int))=true:=decide_eq_true zb;have i1:(0:Int)<=(k:Int):=zb;have i2:(k:Int)<(n:Int):=zb;obtain⟨s1,t1,t2,t3⟩:=yz wr 52 52 #[.bool b1,.slice B1 m1 d1,.slice E1 u1 v1] #[.bool b1,.slice B1 m1 d1,.slice E1 u1 v1];have C:=(zu wr 52 #[.bool b1,.slice B1 m1 d1,.slice E1 u1 v1]).2.1;obtain⟨p0,p1,p2⟩:=C.c3;have t:=za (Ud t2 (hx.below s1));have m:=za (a.keep s1);have d:=za (zc hB s1);clear hx a hB s1 t1 t2 t3 C;go_wp2_with fail;(with_reducible refine(pu (HT.o _ d.o) t.o (G.o k hlt) zf zb).mono ?_);rintro e w3 ⟨b3,A3,n3,c3,E3,k3,f3,rfl,h,hb⟩;clear H I J p0 p1 p2;have h:zo w3 (xs.getD k 0) b3 A3 n3 c3 E3 k3 f3:=by
    have e:um [xs.getD k 0]=xs.getD k 0:=by rw [eI,Vg,xK]
    rw [e] at h;exact h
   have o:=m.o.keep hb;have s:=wn.set_ zZ o hlt h;rw [tX 0 xs n k u.o hlt _ (HG.o k hlt)] at s;obtain⟨q0,q1,q2,sc0,sf0,sc1,sf1,sc2,sf2⟩:=o.ready hlt (.bool b3) (.slice A3 n3 c3);have E:=za s;have D:=za (kX (k*3) (k*3+1) (k*3+2) (.bool b3) (.slice A3 n3 c3) (.slice E3 k3 f3) B (zc d.o hb));clear o s hb h m d t;go_wp2;go_roundg (n - k)
   case measure=>omega
   case rel=>exact⟨k+1,zb,zb,by go_num,E.o,D.o⟩
  ·have hk:k=n:=zb;subst hk;have L:decide ((k:Int)<(k:Int))=false:=zA;have F:=za (tW 0 xs k u.o▸a);have d:=za hB;clear a hB;go_wp2;go_ret;exact⟨gp,rfl,B,F.o,d.o⟩
theorem Sl (hT:zt w)(hp:wO p):
  Calls prog 68 #[.agg #[.int .i64 p,.int .i64 0]] w (yi w (so p 0)):=by
 rw [pp];obtain⟨i,j⟩:=hp;have HT:=zj w (λw' hb=>hT.on hb);obtain⟨c,d,g,bz⟩:=yz w 98 52 #[.int .i64 p,.int .i64 0] #[.bool false,.slice none 0 0,.slice none 0 0];obtain⟨g0,g1⟩:=d.c2;have HB:=za c;have HK:=za g;clear hT c d g bz;go_enter func68,ntmps68;go_wp2_with fail;clear g0 g1;(with_reducible refine(jo p _ (HT.o _ HB.o) i j).mono ?_);rintro e w2 ⟨b2,A2,n2,c2,E2,k2,f2,rfl,h,hb⟩;have a:=zg hb HK.o;obtain⟨sc0,sf0,sc1,sf1,sc2,sf2⟩:=zY a (.bool b2) (.slice A2 n2 c2);obtain⟨r0,r1,r2⟩:=(z6 a (.bool b2) (.slice A2 n2 c2) (.slice E2 k2 f2)).c3;have HG:=za (wR h a (zc HB.o hb) zb);clear hb a h HB HK;go_wp2;refine bodyPost_ret (v:=.agg #[.bool b2,.slice A2 n2 c2,.slice E2 k2 f2]) (by simp [results,results68,go_sem,r0,r1,r2]) rfl ?_;exact HG.o
theorem Sm {q:Int}(hT:zt w)(hp:wO p)(hq:wO q)(h0:q≠0):
  Calls prog 68 #[.agg #[.int .i64 p,.int .i64 q]] w (yi w (so p q)):=by
 rw [kG h0];obtain⟨j,k⟩:=hp;obtain⟨m,n⟩:=hq;have H0:=za h0;have hd0:(q==0)=false:=by rw [beq_eq_false_iff_ne];exact h0
 have HT:=zj w (λw' hb=>hT.on hb);obtain⟨c,d,g,bz⟩:=yz w 98 52 #[.int .i64 p,.int .i64 q] #[.bool false,.slice none 0 0,.slice none 0 0];obtain⟨g0,g1⟩:=d.c2;have HB:=za c;have HK:=za g;clear hT c d g bz h0;go_enter func68,ntmps68;go_wp2_with fail;clear g0 g1;(with_reducible refine(px p q _ (HT.o _ HB.o) j k m n H0.o).mono ?_);rintro e w2 ⟨b2,A2,n2,c2,E2,k2,f2,rfl,h,hb⟩;obtain⟨s1,s2,s3⟩:=zu w2 52 #[.bool b2,.slice A2 n2 c2,.slice E2 k2 f2];obtain⟨p0,p1,p2⟩:=s2.c3;have a:=zg s1 (zg hb HK.o);have i:=h.below s1;obtain⟨sc0,sf0,sc1,sf1,sc2,sf2⟩:=zY a (.bool b2) (.slice A2 n2 c2);obtain⟨r0,r1,r2⟩:=(z6 a (.bool b2) (.slice A2 n2 c2) (.slice E2 k2 f2)).c3;have HG:=za (wR i a (zc (zc HB.o hb) s1) zb);clear hb a h i HB HK s1 s2 s3;go_wp2;refine bodyPost_ret (v:=.agg #[.bool b2,.slice A2 n2 c2,.slice E2 k2 f2]) (by simp [results,results68,go_sem,r0,r1,r2]) rfl ?_;exact HG.o
theorem Wq {q:Int}(hT:zt w)(hp:wO p)(hq:wO q):
  Calls prog 68 #[.agg #[.int .i64 p,.int .i64 q]] w (yi w (so p q)):=by
 by_cases h0:q=0
 ·subst h0;exact Sl hT hp
 ·exact Sm hT hp hq h0
def wQ (L:List (Int×Int)):List Rat:=L.map λq=>so q.1 q.2
theorem ms {W:World}(h:vn W A n c L):zE 1 (wQ L):=λx hx=>by
 obtain⟨q,hq,rfl⟩:=List.mem_map.1 hx;obtain⟨⟨h1,h2⟩,h3,h4⟩:=h.ints q hq;exact po h1 h2 h3 h4
theorem jT (L:List (Int×Int)):(wQ L).length=L.length:=QH _
def sY (w:World)(n:Nat)(xs:List Rat)(e:Ending)(w':World):Prop:=∃(A:ze) (c:Nat),e=.returned (.slice A n c)/\zR w' A n c xs/\(∀ad,A=some ad->w.heap.size<=ad.block)/\Below w.heap.size w w'
theorem SI (hT:zt w)(h:vn w A n c L):
  Calls prog 24 #[.slice A n c] w (sY w n (wQ L)):=by
 obtain⟨ai,ah,S,T,U⟩:=info_parts lL;have hn0:n<=1048576:=qH h.fits h.small;have HL:=za h.len;have HG:zd (∀k,k<n->wO (L.getD k (0,0)).1/\wO (L.getD k (0,0)).2/\∃ad,A=some ad/\ad.block<w.heap.size/\w.cell? (ad.add (k*2))=some (.int .i64 (L.getD k (0,0)).1)/\w.cell? (ad.add (k*2+1))=some (.int .i64 (L.getD k (0,0)).2)):=λk hk=>by
  have hl:=h.len;have e:L[k]?=some (L.getD k (0,0)):=by rw [qQ,qY zb];rfl
  obtain⟨h1,h2⟩:=h.ints _ (QJ e);exact⟨h1,h2,h.row k _ e⟩
 have HS:zd (∀k,k<n->wQ (L.take (k+1))=wQ (L.take k)++[so (L.getD k (0,0)).1 (L.getD k (0,0)).2]):=λk hk=>by
  have hl:=h.len;unfold wQ;rw [QZ zb,YY,qQ,qY zb];rfl
 have HT:=zj w (λw' hb=>hT.on hb);unfold sY;clear h hT;have hB:=qZ w.heap.size w;go_enter func24,ntmps24;go_wp2_with fail
 go_loopg [3,4] (n+1) (λg sl ix wr=>∃(k:Nat) (v:Value) (vs:List Value),k<=n/\n<g+k/\ix=.int .i64 k/\v=sl/\y6 zo wr w.heap.size 52 v (wQ (L.take k)) vs/\Below w.heap.size w wr)
 case atStart=>exact⟨0,_,_,qW _,zb,rfl,rfl,y6.nil _ _ _,hB⟩
 case round=>
  clear hB;obtain⟨k,v,vs,hkn,hg,rfl,rfl,a,hB⟩:=hrel;by_cases hlt:k<n
  ·obtain⟨i,m,ad,rfl,hadb,o,s⟩:=HG.o k hlt;have H:=za (HS.o k hlt);obtain⟨q,hq⟩:∃q,L.getD k (0,0)=q:=⟨_,rfl⟩;rw [hq] at i m o s H;obtain⟨q1,q2⟩:=q;dsimp only at i m o s H;have o:=zv hB o;have s:=fA (zv hB s);have ag:decide ((k:Int)<(n:Int))=true:=decide_eq_true zb;have i1:(0:Int)<=(k:Int):=zb;have i2:(k:Int)<(n:Int):=zb;have O:=za a;have J:=za hB;have Y:=za i;have Z:=za m;have B:(wQ (L.take k)).length=k:=by rw [jT,qA,HL.o];omega
   have M:=za B;clear a hB i m hq B;go_wp2_with fail;(with_reducible refine(Wq (HT.o _ J.o) Y.o Z.o).mono ?_);rintro e w5 ⟨b5,B5,m5,d5,E5,u5,f5,rfl,R,hb⟩;obtain⟨t1,t2,_⟩:=zu w5 52 #[.bool b5,.slice B5 m5 d5,.slice E5 u5 f5];obtain⟨aj,ak,al⟩:=t2.c3;have I:=zc hb t1;have a:=y6.below zZ O.o I;have HX:=za (R.below t1);have HB:=za (zc J.o I);have t:∀j u,[Value.bool b5,.slice B5 m5 d5,.slice E5 u5 f5][j]?=some u->(w5.alloc (.cells #[.bool b5,.slice B5 m5 d5,.slice E5 u5 f5] 52)).cell? ((⟨w5.heap.size,0,none⟩:Addr).add j)=some u:=λj u hu=>by
    rw [xk]
    match j,hu with
    |0,hu=>simp at hu;subst hu;exact t2.cell 0
    |1,hu=>simp at hu;subst hu;exact t2.cell 1
    |2,hu=>simp at hu;subst hu;exact t2.cell 2
   have G:=za t;have P:zd (∀u ∈ [Value.bool b5,.slice B5 m5 d5,.slice E5 u5 f5],u.oneCell'=true):=by intro u hu;simp at hu;rcases hu with rfl|rfl|rfl<;>rfl
   have aa:zd (∀u ∈ [Value.bool b5,.slice B5 m5 d5,.slice E5 u5 f5],vR u):=by intro u hu y z;simp at hu;rcases hu with rfl|rfl|rfl<;>(intro h9;cases h9)
   have ae:zd (∀u ∈(Value.agg #[.bool false,.slice none 0 0,.slice none 0 0]).cells.toList,vR u):=by intro u hu y z;simp [Value.cells] at hu;rcases hu with rfl|rfl<;>(intro h9;cases h9)
   have K:zd (w.heap.size<=(w5.alloc (.cells #[.bool b5,.slice B5 m5 d5,.slice E5 u5 f5] 52)).heap.size):=HB.o.size;have D:=a.own;rw [M.o] at D;have Q:=za D;have N:=za a.nou;have ac:=za a;have ab:=za (λr (h:v.ownBlock=some r)=>a.own.lt r h);clear hb I R t a t1 t2 o s aj ak al D;go_wp2_with (at_builtin;go_loud (refine bG _ rfl (.tmp 11) (.tmp 17) 41 rfl w.heap.size 52 ai (.agg #[.bool false,.slice none 0 0,.slice none 0 0]) 3 56 underlying41 ah S T U rfl zf v k vs rfl Q.o ⟨w5.heap.size,0,none⟩ 1 1 [.bool b5,.slice B5 m5 d5,.slice E5 u5 f5] rfl rfl G.o P.o (by unfold maxLen;omega) zb K.o N.o ae.o aa.o ?_;intro v' w8 E d af C;have F:=za (y6.grow (n:=k+1) zZ ac.o HX.o E (by rw [M.o]) d C);have X:=za (HB.o.grown d K.o (λr hr=>(ab.o r hr).1));clear E d af C));rw [<-H.o] at F;go_roundg (n - k)
   case measure=>omega
   case rel=>exact⟨k+1,_,_,zb,zb,by go_num,rfl,F.o,X.o⟩
  ·have ag:decide ((k:Int)<(n:Int))=false:=decide_eq_false zb;have hk:k=n:=zb;subst hk;rw [qV (by rw [HL.o];exact qX _)] at a;have B:(wQ L).length=k:=by rw [jT];exact HL.o
   obtain⟨A1,c1,rfl,hv,hf⟩:=a.shape;rw [B] at hv⊢;have HV:=za hv;have HF:=za hf;have V:=za hB;clear a hv hB B hf;go_wp2;go_ret;exact⟨A1,c1,rfl,HV.o,HF.o,V.o⟩
theorem fu (n m:Nat)(f:Nat->Nat->Rat):(yp n m f).length=n:=by simp [yp]
theorem dG (f:Nat->Nat->Rat){r:Nat}(h:r<n):(yp n m f)[r]?=some ((List.range m).map (f r)):=by
 unfold yp;rw [qN,xL h];rfl
theorem Xw (m:Nat)(f:Nat->Rat):((List.range m).map f).length=m:=zA
theorem Xv (f:Nat->Rat){c:Nat}(h:c<m):((List.range m).map f)[c]?=some (f c):=by
 rw [qN,xL h];rfl
theorem Yu {g:Nat}{M:List (List Rat)}(h:xz (z8 zo) w 41 g n M)(hd:zO M n m)(hn:n<=64)(hm:m<=64):xF w (some ⟨g,0,none⟩) n n m M:=⟨hd,qX _,zb,hn,hm,h.rows,λad e=>by obtain⟨cs,hk,_⟩:=h.blk;injection e with e;subst e;exact⟨cs,hk⟩⟩
def mR (f:Nat->Nat->Rat)(F:FuncId)(cap:Array Value)(n m:Nat)(w:World):Prop:=
 (∀ (args : Array Value) (w' : World),Sem.run prog (callFunc F args) w' = .ok (.enter F args) w') ∧
   ∀r c,r<n->c<m->∀w',Below w.heap.size w w'->Calls prog F (#[.int .i64 (r:Int),.int .i64 (c:Int)]++cap) w' (yi w' (f r c))
theorem V8 {K:Nat}(f:Nat->Nat->Rat)(F:FuncId)(cap:Array Value)(n m:Nat)(w:World)(hT:zt w)(hG:mR f F cap n m w)(hS:∀r c,r<n->c<m->zn K (f r c))(hn:n<=64:=by omega)(hm:m<=64:=by omega)(hK:K+2<=67108864:=by omega):
  Calls prog 82 #[.int .i64 (n:Int),.int .i64 (m:Int),.func (.func F) #[] cap] w (sE w n m (yp n m f)):=by
 obtain⟨hEn,hF⟩:=hG;have HF:=za hF;have HT:=zj w (λw' hb=>hT.on hb);have P:=za (fu n m f);have O:zd (∀r,r<n->(yp n m f)[r]?=some ((List.range m).map (f r))):=λr hr=>dG f hr;have ac:zd (∀r c,c<m->((List.range m).map (f r))[c]?=some (f r c)):=λr c hc=>Xv (f r) hc;have ah:zd (∀r,((List.range m).map (f r)).length=m):=λr=>Xw m (f r);have al:zd (∀r,r<n->zE K ((List.range m).map (f r))):=λr hr x hx=>by
  obtain⟨c,hc,rfl⟩:=List.mem_map.1 hx;exact hS r c hr (List.mem_range.1 hc)
 have ab:=za (tU n m f);obtain⟨E,L⟩:∃E:Nat->List Rat,(λr=>(List.range m).map (f r))=E:=⟨_,rfl⟩;have C:∀r,(List.range m).map (f r)=E r:=λr=>by rw [<-L]
 simp only [C] at O ac ah al;obtain⟨M,hM⟩:∃M,yp n m f=M:=⟨_,rfl⟩;rw [hM] at P O ab⊢;obtain⟨Z,hZ⟩:=oM m zb;have HMK:∀W,(Instr.makeSlice 41 (.int .i64 (m:Int)) (.int .i64 (m:Int))).run prog W=.ok (.slice (some ⟨W.heap.size,0,none⟩) m m) (W.alloc (.cells Z 52)):=λW=>(hZ W).1;have aj:=za (λW=>(hZ W).2);obtain⟨Y,hY⟩:=aS n zb;have ai:∀W,(Instr.makeSlice 26 (.int .i64 (n:Int)) (.int .i64 (n:Int))).run prog W=.ok (.slice (some ⟨W.heap.size,0,none⟩) n n) (W.alloc (.cells Y 41)):=λW=>(hY W).1;have A:=za (λW=>(hY W).2);obtain⟨b1,b2,b3,b4,b5⟩:=y9 w 28 41 28 #[.slice none 0 0,.int .i64 0] Y #[.slice (some ⟨w.heap.size+1,0,none⟩) n n,.int .i64 (m:Int)];clear hT hF hS L C hM hZ hY;unfold sE;have i0:(0:Int)<=(n:Int):=zb;have i1:(0:Int)<=(m:Int):=zb;go_enter func82,ntmps82;go_wp2_with fail;have a:xz (z8 zo) (((w.alloc (.cells #[.slice none 0 0,.int .i64 0] 28)).alloc (.cells Y 41)).alloc (.cells #[.slice (some ⟨w.heap.size+1,0,none⟩) n n,.int .i64 (m:Int)] 28)) 41 (w.heap.size+1) n (wX [] M n 0):=by
  have h1:=A.o (w.alloc (.cells #[.slice none 0 0,.int .i64 0] 28));have e1:(w.alloc (.cells #[.slice none 0 0,.int .i64 0] 28)).heap.size=w.heap.size+1:=zA;rw [e1] at h1;rw [tV];exact h1.below (y7 zZ) (zu _ _ _).1
 clear b3 A ai;obtain⟨g0,Q⟩:∃g,w.heap.size=g:=⟨_,rfl⟩;have a1:w.heap.size<=g0:=zb;rw [Q] at a b1 b2 b4 b5⊢;generalize ((w.alloc (.cells #[.slice none 0 0,.int .i64 0] 28)).alloc (.cells Y 41)).alloc (.cells #[.slice (some ⟨g0+1,0,none⟩) n n,.int .i64 (m:Int)] 28)=W1 at*;rw [<-Q] at b1;clear Q
 go_loopg [18] (n+1) (λg ix wr=>∃(k:Nat),k<=n/\n<g+k/\ix=.int .i64 k/\xz (z8 zo) wr 41 (g0+1) n (wX [] M n k)/\Below w.heap.size w wr/\zh wr g0 28 #[.slice none 0 0,.int .i64 0]/\zh wr (g0+1+1) 28 #[.slice (some ⟨g0+1,0,none⟩) n n,.int .i64 (m:Int)])
 case atStart=>exact⟨0,qW _,zb,rfl,a,b1,b2,b4⟩
 case round=>
  clear a b1 b2 b4 b5;obtain⟨k,hkn,hg,rfl,a,hB,y,G⟩:=hrel;obtain⟨wo,a2⟩:∃wo,wo=wr:=⟨_,rfl⟩;subst a2;by_cases hlt:k<n
  ·have az:decide ((k:Int)<(n:Int))=true:=decide_eq_true zb;have i2:(0:Int)<=(k:Int):=zb;have i3:(k:Int)<(n:Int):=zb;have hg1:=a.lt;have ak:=za a;have HB:=za hB;have av:=za y;have aw:=za G;have I:=za (ac.o k);have t:=za (ah.o k);have J:=za (al.o k hlt);have H:=za (O.o k hlt);obtain⟨R,hR⟩:∃R,E k=R:=⟨_,rfl⟩;rw [hR] at I t J H;clear a hB y G hR;go_wp2_with fail;have i:=aj.o wo;have d:Below wo.heap.size wo (wo.alloc (.cells Z 52)):=(qZ _ wo).alloc (qX _) _;rw [<-tV 0 R m] at i;obtain⟨gr,am⟩:∃g,wo.heap.size=g:=⟨_,rfl⟩;have a3:wo.heap.size<=gr:=zb;rw [am] at i⊢;generalize wo.alloc (.cells Z 52)=W2 at*;clear am
   go_loopg [25] (m+1) (λg jx wr=>∃(j:Nat),j<=m/\m<g+j/\jx=.int .i64 j/\yh wr gr m (wX 0 R m j)/\Below wo.heap.size wo wr)
   case atStart=>exact⟨0,qW _,zb,rfl,i,d⟩
   case round=>
    clear i d;obtain⟨j,hjm,hg2,rfl,i,d⟩:=hrel;by_cases hjl:j<m
    ·have a0:decide ((j:Int)<(m:Int))=true:=decide_eq_true zb;have i4:(0:Int)<=(j:Int):=zb;have i5:(j:Int)<(m:Int):=zb;have ae:=za i;have N:=za d;have au:=za (I.o j hjl);clear i d;go_wp2_with fail;refine(HF.o k j hlt hjl _ (zc HB.o N.o)).mono ?_;rintro e w3 ⟨b3,A3,n3,c3,E3,k3,f3,rfl,ao,hb⟩;have S:=ae.o.keep hb;have T:=wn.set_ zZ S hjl ao;rw [tX 0 R m j t.o hjl _ au.o] at T;obtain⟨q0,q1,q2,X,aa,a4,a5,sc2,sf2⟩:=S.ready hjl (.bool b3) (.slice A3 n3 c3);have ax:=za T;have aq:=za (kX (j*3) (j*3+1) (j*3+2) (.bool b3) (.slice A3 n3 c3) (.slice E3 k3 f3) a3 (zc N.o hb));clear S T hb ao ae N;go_wp2;go_roundg (m - j)
     case measure=>omega
     case rel=>exact⟨j+1,zb,zb,by go_num,ax.o,aq.o⟩
    ·have hj:j=m:=zb;subst hj;have a0:decide ((j:Int)<(j:Int))=false:=zA;have HV:=za (xe (tW 0 R j t.o▸i));have ap:=zg d aw.o;have h:=za (ak.o.below (y7 zZ) d);have z:=za (zc HB.o d);have o:=za (zg d av.o);have s:=za ap;obtain⟨p0,p1⟩:=ap.c2;have u:=(qZ wr.heap.size wr).drew;clear i d;go_wp2_with fail;refine rg (zk p0 zQ) (λhHeld=>?_);clear p0 p1;have HV:=za (HV.o.keep u);have h:=za (h.o.below (y7 zZ) u);have z:=za (zc z.o u);have o:=za (zg u o.o);have s:=za (zg u s.o);clear u;generalize wr.drew=D at*;refine tk 0 ?_;refine tk 1 ?_;refine tk 2 ?_;refine tk 3 ?_;refine rc 4 (λKK B=>?_);go_simp;(with_reducible refine(Uc (HT.o _ z.o) HV.o J.o).mono ?_);rintro e w5 ⟨g5,rfl,hg5,an,hb⟩;refine B.out _ _ (Cs.below hHeld hb) (λhHeld=>?_);clear B KK;have U:=h.o.below (y7 zZ) hb;have V:=xz.set_ (y7 zZ) U hlt (xe an) t.o;rw [tX [] M n k P.o hlt _ H.o] at V;obtain⟨q0,X,aa⟩:=U.ready hlt;have hne:g0+1+1≠g0+1:=zb;have ay:=za V;have ar:=za (zM (p:=⟨g0+1,k,none⟩) (.slice (some ⟨g5,0,none⟩) j j) (show w.heap.size<=g0+1 by omega) (zc z.o hb));have af:=za (zh.far (p:=⟨g0+1,k,none⟩) (zg hb o.o) (by show g0≠g0+1;omega) (.slice (some ⟨g5,0,none⟩) j j));have ag:=za (zh.far (p:=⟨g0+1,k,none⟩) (zg hb s.o) (by show g0+1+1≠g0+1;omega) (.slice (some ⟨g5,0,none⟩) j j));clear hb U V an h z o s HV;refine tk 5 ?_;refine rc 6 (λKK B=>?_);go_simp;refine B.out _ _ ?_ (λhHeld=>?_)
     ·refine Cs.far hHeld ((yb.refl (g0+1) _).set_ k _) ⟨?_,trivial⟩;show g0+1+1≠g0+1;omega
     clear B KK;refine zN ?_;clear hHeld X aa;go_wp2;go_roundg (n - k)
     case measure=>omega
     case rel=>exact⟨k+1,zb,zb,by go_num,ay.o,ar.o,af.o,ag.o⟩
  ·have hk:k=n:=zb;subst hk;have az:decide ((k:Int)<(k:Int))=false:=zA;have HM:=za (Yu (tW [] M k P.o▸a) ab.o hn hm);obtain⟨p0,p1⟩:=G.c2;obtain⟨X,aa,a4,a5⟩:=ue y (.slice (some ⟨g0+1,0,none⟩) k k);obtain⟨r0,r1⟩:=(ud y (.slice (some ⟨g0+1,0,none⟩) k k) (.int .i64 (m:Int))).c2;have HG:=za (iJ HM.o (λad e=>by injection e with e;subst e;show g0<g0+1;omega) y hB a1);unfold sE at HG;clear a hB y G;go_wp2;refine bodyPost_ret (v:=.agg #[.slice (some ⟨g0+1,0,none⟩) k k,.int .i64 (m:Int)]) (by simp [results,results82,go_sem,r0,r1]) rfl ?_;exact HG.o
theorem Ww (z:Int)(w:World):Calls prog 129 #[.int .i64 z] w (λe w'=>e=.returned (.bool false)/\w=w'):=by
 have h1:(z !=z)=false:=zA;go_enter func129,ntmps129;go_wp2;go_ret;exact⟨rfl,rfl⟩
theorem TH (n m:Nat)(w:World):Calls prog 101 #[.int .i64 (n:Int),.int .i64 (m:Int)] w (λe w'=>e=.returned (.int .i64 (rE n m))/\w=w'):=by
 have H1:=za (Ww (n:Int) w);have H2:=za (Ww (m:Int) w);unfold rE;by_cases h1:n<m
 ·have hd:decide ((n:Int)<(m:Int))=true:=decide_eq_true zb;have a:decide (n<m)=true:=decide_eq_true zb;rw [if_pos h1];go_enter func101,ntmps101;go_wp2_with fail;refine H1.o.mono ?_;rintro e w1 ⟨rfl,rfl⟩;go_wp2_with fail;refine H2.o.mono ?_;rintro e w1 ⟨rfl,rfl⟩;go_wp2;go_ret;exact⟨rfl,rfl⟩
 ·have hd:decide ((n:Int)<(m:Int))=false:=decide_eq_false zb;have a:decide (n<m)=false:=decide_eq_false zb;rw [if_neg h1];by_cases h2:n=m
  ·rw [if_pos h2];have c:decide ((m:Int)<(n:Int))=false:=decide_eq_false zb;have d:decide ((n:Int)>(m:Int))=false:=decide_eq_false zb;have g:decide (m<n)=false:=decide_eq_false zb;clear h1 h2;go_enter func101,ntmps101;go_wp2_with fail;refine H1.o.mono ?_;rintro e w1 ⟨rfl,rfl⟩;go_wp2_with fail;refine H2.o.mono ?_;rintro e w1 ⟨rfl,rfl⟩;go_wp2;go_ret;exact⟨rfl,rfl⟩
  ·rw [if_neg h2];have c:decide ((m:Int)<(n:Int))=true:=decide_eq_true zb;have d:decide ((n:Int)>(m:Int))=true:=decide_eq_true zb;have g:decide (m<n)=true:=decide_eq_true zb;clear h1 h2;go_enter func101,ntmps101;go_wp2_with fail;refine H1.o.mono ?_;rintro e w1 ⟨rfl,rfl⟩;go_wp2_with fail;refine H2.o.mono ?_;rintro e w1 ⟨rfl,rfl⟩;go_wp2;go_ret;exact⟨rfl,rfl⟩
section
variable {K K':Nat}{xs ys:List Rat}{A B:ze}{n n' c d:Nat}{w:World}
theorem Qs {z:Int}(hz:vS xs ys=z)(hT:zt w)(ha:zR w A n c xs)(hb:zR w B n' d ys)(hx:zE K xs)(hy:zE K' ys)(hn:n<=1073741824:=by omega)(hn':n'<=1073741824:=by omega)(hK:K<=67108864:=by omega)(I:K'<=67108864:=by omega):
  Calls prog 52 #[.slice A n c,.slice B n' d] w (vO w z):=by
 have O:=ha.len;have P:=hb.len;have L:=za O;have M:=za P;have HZ:=za hz;have G:zd (∀i,i<n->zn K (xs.getD i 0)):=λi hi=>hx.at_ zb;have H:zd (∀i,i<n'->zn K' (ys.getD i 0)):=λi hi=>hy.at_ zb;unfold vO;have HA:=za ha;have U:=za hb;have HT:=zj w (λw' hb=>hT.on hb);clear hT ha hb hx hy O P hz;have hB:=qZ w.heap.size w;have i0:(0:Int)<=(n:Int):=zb;obtain⟨N,hN⟩:∃N,min n n'=N:=⟨_,rfl⟩;have hNn:N<=n:=zb;have hNm:N<=n':=zb;have HN:=za hN;have Q:min (n:Int) (n':Int)=(N:Int):=zb;have R:(if (n':Int)<(n:Int) then(n':Int) else(n:Int))=(N:Int):=by split<;>omega
 have S:(if n'<n then(n':Int) else(n:Int))=(N:Int):=by split<;>omega
 clear hN;go_enter func52,ntmps52;go_wp2_with fail;clear Q R S
 go_loopg [11] (N+1) (λg ix wr=>∃(k:Nat),k<=N/\N<g+k/\ix=.int .i64 k/\zd (vS (xs.drop k) (ys.drop k)=z)/\Below w.heap.size w wr)
 case atStart=>exact⟨0,qW _,zb,rfl,HZ,hB⟩
 case round=>
  clear hB;obtain⟨k,hkn,hg,rfl,J,hB⟩:=hrel;by_cases hlt:k<N
  ·have m:k<n:=zb;have j:k<n':=zb;obtain⟨ad,b1,B1,m1,d1,E1,u1,v1,rfl,-,t,u,v,hx⟩:=HA.o.get hB m;obtain⟨ae,b2,B2,m2,d2,E2,u2,v2,rfl,-,y,C,D,hy⟩:=U.o.get hB j;have Z:decide ((k:Int)<(N:Int))=true:=decide_eq_true zb;have i1:(0:Int)<=(k:Int):=zb;have i2:(k:Int)<(n:Int):=zb;have i3:(k:Int)<(n':Int):=zb;have HX:=za hx;have HY:=za hy;have o:=za hB;have E:k<xs.length:=by have:=L.o;omega
   have F:k<ys.length:=by have:=M.o;omega
   clear hx hy hB;by_cases h0:xs.getD k 0=ys.getD k 0
   ·have HQ:=za (decide_eq_true h0);have Y:zd (vS (xs.drop (k+1)) (ys.drop (k+1))=z):=by
     show _=_;rw [<-Tj E F h0];exact J.o
    clear h0 E F;go_wp2_with fail;have a:=(qZ wr.heap.size wr).drew;refine rg (zk t (zk u (zk v (zk y (zk C (zk D zQ)))))) (λhHeld=>?_);refine tk 0 ?_;refine tk 1 ?_;refine tk 2 ?_;refine tk 3 ?_;refine tk 4 ?_;refine tk 5 ?_;refine tk 6 ?_;refine tk 7 ?_;refine rc 8 (λKK h=>?_);go_simp;(with_reducible refine(pt HQ.o (HT.o _ (zc o.o a)) (HX.o.below a) (HY.o.below a) (G.o k m) (H.o k j) hK I).mono ?_);rintro e wa ⟨rfl,hb⟩;have a:=zc a hb;refine h.out _ _ (Cs.below hHeld hb) (λhHeld=>?_);clear h KK hb;refine tk 9 ?_;refine zN ?_;have s:=za (zc o.o a);clear hHeld a t u v y C D HX HY o;go_wp2;go_roundg (N - k)
    case measure=>omega
    case rel=>exact⟨k+1,zb,zb,by go_num,Y,s.o⟩
   ·have HQ:=za (decide_eq_false h0);have HF:zd (uO (xs.getD k 0) (ys.getD k 0)=z):=by
     show _=_;rw [<-Tc E F h0];exact J.o
    clear h0 E F;go_wp2_with fail;have a:=(qZ wr.heap.size wr).drew;refine rg (zk t (zk u (zk v (zk y (zk C (zk D zQ)))))) (λhHeld=>?_);refine tk 0 ?_;refine tk 1 ?_;refine tk 2 ?_;refine tk 3 ?_;refine tk 4 ?_;refine tk 5 ?_;refine tk 6 ?_;refine tk 7 ?_;refine rc 8 (λKK h=>?_);go_simp;(with_reducible refine(pt HQ.o (HT.o _ (zc o.o a)) (HX.o.below a) (HY.o.below a) (G.o k m) (H.o k j) hK I).mono ?_);rintro e wa ⟨rfl,hb⟩;have a:=zc a hb;refine h.out _ _ (Cs.below hHeld hb) (λhHeld=>?_);clear h KK hb;refine tk 9 ?_;refine zN ?_;have s:=za (zc o.o a);have V:=za (HX.o.below a);have X:=za (HY.o.below a);obtain⟨c0,c1,c2,e0,e1,e2,-⟩:=hHeld;clear a t u v y C D HX HY o;go_wp2_with fail;have a:=(qZ wa.heap.size wa).drew;refine rg (zk c0 (zk c1 (zk c2 (zk e0 (zk e1 (zk e2 zQ)))))) (λhHeld=>?_);refine tk 0 ?_;refine tk 1 ?_;refine tk 2 ?_;refine tk 3 ?_;refine tk 4 ?_;refine tk 5 ?_;refine tk 6 ?_;refine tk 7 ?_;refine rc 8 (λKK h=>?_);go_simp;(with_reducible refine(sB HF.o (gj (HT.o _ (zc s.o a)) (V.o.below a) (X.o.below a) (G.o k m) (H.o k j) hK I)).mono ?_);rintro e wb ⟨rfl,hb⟩;have a:=zc a hb;refine h.out _ _ (Cs.below hHeld hb) (λhHeld=>?_);clear h KK hb;refine tk 9 ?_;refine zN ?_;have T:=za (zc s.o a);clear hHeld a c0 c1 c2 e0 e1 e2;go_wp2;go_ret;exact⟨rfl,T.o⟩
  ·have hk:k=N:=zb;subst hk;have Z:decide ((k:Int)<(k:Int))=false:=zA;have HF:zd (rE n n'=z):=by
    have h1:=L.o;have h2:=M.o;have h3:=HN.o;have h4:=J.o;rw [rF (by rw [h1,h2];exact h3.symm),h1,h2] at h4;exact h4
   have s:=za hB;have H1:=za (TH n n' wr);rw [HF.o] at H1;clear hB;go_wp2_with fail;refine H1.o.mono ?_;rintro e w1 ⟨rfl,rfl⟩;go_wp2;go_ret;exact⟨rfl,s.o⟩
theorem kV {t:Bool}(e:decide (xs=ys)=t)(hT:zt w)(ha:zR w A n c xs)(hb:zR w B n' d ys)(hx:zE K xs)(hy:zE K' ys)(hn:n<=1073741824:=by omega)(g:n'<=1073741824:=by omega)(hK:K<=67108864:=by omega)(a:K'<=67108864:=by omega):
  Calls prog 17 #[.slice A n c,.slice B n' d] w (λe w'=>e=.returned (.bool t)/\Below w.heap.size w w'):=by
 obtain⟨z,hz⟩:∃z,vS xs ys=z:=⟨_,rfl⟩;have H:=za (Qs hz hT ha hb hx hy hn g hK a);have ht:(z==0)=t:=by
  rw [<-e,<-hz];by_cases h:xs=ys
  ·rw [decide_eq_true h,(Zy xs ys).2 h];rfl
  ·rw [decide_eq_false h,beq_eq_false_iff_ne];exact λh9=>h ((Zy xs ys).1 h9)
 clear hz hT ha hb hx hy e;have HE:=za ht;clear ht;go_enter func17,ntmps17;go_wp2_with fail;refine H.o.mono ?_;rintro e w1 ⟨rfl,hb⟩;go_wp2;go_ret;exact⟨by rw [<-HE.o];rfl,hb⟩
end
