/- What this claim leans on. -/
import Derived.Test.YtdfdjfiognhbgaaGreatDoorDVRef
set_option linter.unusedVariables false
set_option linter.unusedSimpArgs false
namespace Go.Proofs.YtdfdjfiognhbgaaGreatDoor
open Go Go.RowKit Go.Proofs.Tryz
set_option maxHeartbeats 16000000
set_option maxRecDepth 100000
variable {cs:Array Value}{z:Int}{M:List (List Rat)}{xs:List Rat}{K K' b c g k m n p:Nat}{t:TypeId}{W w w' wr:World}{A B:ze}
theorem tG {L:Nat}{r:Rat}{s:Bool}{D:ze}{e9:Nat}{U:ze}{u v:Nat}(hT:zu w)(hr:zo w r s D m e9 U u v)(ha:zU w A n c xs)(zr:zm L r)(hx:zK K xs)(hn:n<=1073741824:=by omega)(hK:K<=67108864:=by omega)(hL:L<=67108864:=by omega):
  Calls prog 81 #[.agg #[.bool s,.slice D m e9,.slice U u v],.slice A n c] w (ku w n (y6 r xs)):=by
 have Q:=ha.len;have F:(y6 r xs).length=n:=by unfold y6;rw [xV];exact Q
 have B:∀i,i<n->(y6 r xs)[i]?=some (r*xs.getD i 0):=λi hi=>by
  unfold y6;rw [QQ,qQ,qX zb];rfl
 have aa:zd (∀i,i<n->zm K (xs.getD i 0)):=λi hi=>hx.at_ zb;unfold ku;obtain⟨zs,S⟩:∃zs,y6 r xs=zs:=⟨_,rfl⟩;rw [S] at B F⊢;have HG:=za B;have J:=za F;have ab:=za zr;obtain⟨M,N,bz⟩:=zw w 41 #[.bool s,.slice D m e9,.slice U u v];have HA:=za ha;have HT:=zj w (λw' hb=>hT.on hb);have HR:=zj w (λw' hb=>hr.below hb);have z:=za M;have C:=za N;obtain⟨Z,hZ⟩:=iH n zb;have ai:=λW=>(hZ W).1;have t:=za (λW=>(hZ W).2);clear hT hr ha zr hx Q F S B hZ M N bz;have i0:(0:Int)<=(n:Int):=zb;go_enter func81,ntmps81;go_wp2_with fail;clear ai;obtain⟨W0,o⟩:∃W,w.alloc (.cells #[.bool s,.slice D m e9,.slice U u v] 41)=W:=⟨_,rfl⟩;rw [o] at z C;have a:=t.o W0;have O:=z.o;have hsz:W0.heap.size=w.heap.size+1:=by rw [<-o];simp
 simp only [o] at*;have E:Below W0.heap.size W0 (W0.alloc (.cells Z 41)):=(qZ _ W0).alloc (qY _) _;have d:=zf E C.o;have hB:=zc O E;rw [hsz] at a;clear o z C O E hsz t;generalize W0.alloc (.cells Z 41)=W1 at*;obtain⟨gp,P⟩:∃g,w.heap.size+1=g:=⟨_,rfl⟩;rw [P] at a⊢;rw [<-mR 0 zs n] at a;have hwg:w.heap.size+1<=gp:=zb;clear P
 go_loopg [13] (n+1) (λg ix wr=>∃(k:Nat),k<=n/\n<g+k/\ix=.int .i64 k/\vP wr gp n (uh 0 zs n k)/\Below w.heap.size w wr/\zh wr w.heap.size 41 #[.bool s,.slice D m e9,.slice U u v])
 case atStart=>exact⟨0,qN _,zb,rfl,a,hB,d⟩
 case round=>
  clear a hB d;obtain⟨k,hkn,hg,rfl,a,hB,d⟩:=hrel;by_cases hlt:k<n
  ·obtain⟨ad,b1,B1,m1,d1,E1,u1,v1,rfl,-,ac,ae,af,hx⟩:=HA.o.get hB hlt;have ag:decide ((k:Int)<(n:Int))=true:=decide_eq_true zb;have i1:(0:Int)<=(k:Int):=zb;have i2:(k:Int)<(n:Int):=zb;obtain⟨st,d3,d4⟩:=zw wr 41 #[.bool b1,.slice B1 m1 d1,.slice E1 u1 v1];obtain⟨p0,p1,p2⟩:=d3.c3;obtain⟨g0,g1,g2⟩:=(zf st d).c3;have HX:=za (hx.below st);have y:=za (a.keep st);have j:=za (zc hB st);have I:=za (zf st d);clear hx a hB st d3 d4 d;go_wp2_with fail;(with_reducible refine(ia (HT.o _ j.o) (HR.o _ j.o) HX.o ab.o (aa.o k hlt) hL hK).mono ?_);rintro e w3 ⟨b3,A3,n3,c3,E3,k3,f3,rfl,R,hb⟩;clear ac ae af p0 p1 p2 g0 g1 g2;have G:=y.o.keep hb;have H:=wA.set_ zS G hlt R;rw [mT 0 zs n k J.o hlt _ (HG.o k hlt)] at H;obtain⟨q0,q1,q2,sc0,sf0,sc1,sf1,sc2,sf2⟩:=G.ready hlt (.bool b3) (.slice A3 n3 c3);have X:=za H;have T:=za (lV (k*3) (k*3+1) (k*3+2) (.bool b3) (.slice A3 n3 c3) (.slice E3 k3 f3) (show w.heap.size<=gp by omega) (zc j.o hb));have V:=za (zh.far (p:=⟨gp,k*3+2,none⟩) (zh.far (p:=⟨gp,k*3+1,none⟩) (zh.far (p:=⟨gp,k*3,none⟩) (zf hb I.o) (by show w.heap.size≠gp;omega) (.bool b3)) (by show w.heap.size≠gp;omega) (.slice A3 n3 c3)) (by show w.heap.size≠gp;omega) (.slice E3 k3 f3));clear G H hb R HX y j I;go_wp2;go_roundg (n - k)
   case measure=>omega
   case rel=>exact⟨k+1,zb,zb,by go_num,X.o,T.o,V.o⟩
  ·have hk:k=n:=zb;subst hk;have ag:decide ((k:Int)<(k:Int))=false:=zE;have Y:=za (mS 0 zs k J.o▸a);have j:=za hB;have ah:w.heap.size<=gp:=zb;clear a hB d;go_wp2;go_ret;exact⟨gp,rfl,ah,Y.o,j.o⟩
structure tK (w:World)(A:ze)(n:Nat)(zs:List Int):Prop where
 len:zs.length=n
 ints:∀i,i<n-> -9223372036854775808<=zs.getD i 0/\zs.getD i 0<=9223372036854775807
 num:∀i,i<n->∃ad:Addr,A=some ad/\w.cell? (ad.add i)=some (.int .i64 (zs.getD i 0))
def y7 (zs:List Int):List Rat:=zs.map λz:Int=>(z:Rat)
theorem sk {zs:List Int}(hT:zu w)(ha:tK w A n zs)(hn:n<=1073741824:=by omega):
  Calls prog 22 #[.slice A n c] w (ku w n (y7 zs)):=by
 have D:=ha.len;have s:(y7 zs).length=n:=by unfold y7;rw [xV];exact D
 have o:∀i,i<n->(y7 zs)[i]?=some ((zs.getD i 0:Int):Rat):=λi hi=>by
  unfold y7;rw [QQ,qQ,qX zb];rfl
 have HI:=za ha.ints;unfold ku;obtain⟨ys,G⟩:∃ys,y7 zs=ys:=⟨_,rfl⟩;rw [G] at o s⊢;have HG:=za o;have y:=za s;have HA:=za ha.num;have HT:=zj w (λw' hb=>hT.on hb);obtain⟨Z,hZ⟩:=iH n zb;have L:=λW=>(hZ W).1;have j:=za (λW=>(hZ W).2);clear hT ha D s G o hZ;have i0:(0:Int)<=(n:Int):=zb;go_enter func22,ntmps22;go_wp2_with fail;clear L;have a:=j.o w;have hB:Below w.heap.size w (w.alloc (.cells Z 41)):=(qZ _ w).alloc (qY _) _;obtain⟨gp,C⟩:∃g,w.heap.size=g:=⟨_,rfl⟩;have F:w.heap.size<=gp:=zb;rw [C] at a⊢;rw [<-mR 0 ys n] at a;generalize w.alloc (.cells Z 41)=W1 at*;clear C j
 go_loopg [11] (n+1) (λg ix wr=>∃(k:Nat),k<=n/\n<g+k/\ix=.int .i64 k/\vP wr gp n (uh 0 ys n k)/\Below w.heap.size w wr)
 case atStart=>exact⟨0,qN _,zb,rfl,a,hB⟩
 case round=>
  clear a hB;obtain⟨k,hkn,hg,rfl,a,hB⟩:=hrel;by_cases hlt:k<n
  ·obtain⟨ad,rfl,hc⟩:=HA.o k hlt;have B:=zt hB hc;obtain⟨z1,z2⟩:=HI.o k hlt;have v:=za (HG.o k hlt);obtain⟨z,hz⟩:∃z,zs.getD k 0=z:=⟨_,rfl⟩;rw [hz] at B z1 z2 v;have K:decide ((k:Int)<(n:Int))=true:=decide_eq_true zb;have i1:(0:Int)<=(k:Int):=zb;have i2:(k:Int)<(n:Int):=zb;have m:=za a;have d:=za hB;clear a hB hc hz;go_wp2_with fail;(with_reducible refine(pW z _ (HT.o _ d.o) z1 z2).mono ?_);rintro e w3 ⟨b3,A3,n3,c3,E3,k3,f3,rfl,E,hb⟩;clear B;have t:=m.o.keep hb;have u:=wA.set_ zS t hlt E;rw [mT 0 ys n k y.o hlt _ v.o] at u;obtain⟨q0,q1,q2,sc0,sf0,sc1,sf1,sc2,sf2⟩:=t.ready hlt (.bool b3) (.slice A3 n3 c3);have I:=za u;have H:=za (lV (k*3) (k*3+1) (k*3+2) (.bool b3) (.slice A3 n3 c3) (.slice E3 k3 f3) F (zc d.o hb));clear t u hb E m d;go_wp2;go_roundg (n - k)
   case measure=>omega
   case rel=>exact⟨k+1,zb,zb,by go_num,I.o,H.o⟩
  ·have hk:k=n:=zb;subst hk;have K:decide ((k:Int)<(k:Int))=false:=zE;have J:=za (mS 0 ys k y.o▸a);have d:=za hB;clear a hB;go_wp2;go_ret;exact⟨gp,rfl,F,J.o,d.o⟩
theorem V9 (hT:zu w)(ha:zU w A n c xs)(hx:zK K xs)(hn:n<=1073741824:=by omega)(hK:K+2<=67108864:=by omega):
  Calls prog 119 #[.slice A n c] w (ku w n xs):=by
 have B:=ha.len;have HG:zd (∀i,i<n->xs[i]?=some (xs.getD i 0)):=λi hi=>by
  rw [qQ,qX zb];rfl
 have H:zd (∀i,i<n->zK K [xs.getD i 0]):=λi hi y hy=>by
  rw [List.mem_singleton.1 hy];exact hx.at_ zb
 unfold ku;have v:=za B;have HA:=za ha;have HT:=zj w (λw' hb=>hT.on hb);obtain⟨Z,hZ⟩:=iH n zb;have N:=λW=>(hZ W).1;have m:=za (λW=>(hZ W).2);clear hT ha hx B hZ;have i0:(0:Int)<=(n:Int):=zb;go_enter func119,ntmps119;go_wp2_with fail;clear N;have a:=m.o w;have hB:Below w.heap.size w (w.alloc (.cells Z 41)):=(qZ _ w).alloc (qY _) _;obtain⟨gp,z⟩:∃g,w.heap.size=g:=⟨_,rfl⟩;have C:w.heap.size<=gp:=zb;rw [z] at a⊢;rw [<-mR 0 xs n] at a;generalize w.alloc (.cells Z 41)=W1 at*;clear z m
 go_loopg [11] (n+1) (λg ix wr=>∃(k:Nat),k<=n/\n<g+k/\ix=.int .i64 k/\vP wr gp n (uh 0 xs n k)/\Below w.heap.size w wr)
 case atStart=>exact⟨0,qN _,zb,rfl,a,hB⟩
 case round=>
  clear a hB;obtain⟨k,hkn,hg,rfl,a,hB⟩:=hrel;by_cases hlt:k<n
  ·obtain⟨ad,b1,B1,m1,d1,E1,u1,v1,rfl,-,I,J,L,hx⟩:=HA.o.get hB hlt;have M:decide ((k:Int)<(n:Int))=true:=decide_eq_true zb;have i1:(0:Int)<=(k:Int):=zb;have i2:(k:Int)<(n:Int):=zb;obtain⟨s1,t1,t2,t3⟩:=zX wr 41 41 #[.bool b1,.slice B1 m1 d1,.slice E1 u1 v1] #[.bool b1,.slice B1 m1 d1,.slice E1 u1 v1];have D:=(zw wr 41 #[.bool b1,.slice B1 m1 d1,.slice E1 u1 v1]).2.1;obtain⟨p0,p1,p2⟩:=D.c3;have u:=za (Ua t2 (hx.below s1));have o:=za (a.keep s1);have d:=za (zc hB s1);clear hx a hB s1 t1 t2 t3 D;go_wp2_with fail;(with_reducible refine(lK (HT.o _ d.o) u.o (H.o k hlt) zg zb).mono ?_);rintro e w3 ⟨b3,A3,n3,c3,E3,k3,f3,rfl,j,hb⟩;clear I J L p0 p1 p2;have j:zo w3 (xs.getD k 0) b3 A3 n3 c3 E3 k3 f3:=by
    have e:uA [xs.getD k 0]=xs.getD k 0:=by rw [bG,WH,XJ]
    rw [e] at j;exact j
   have s:=o.o.keep hb;have t:=wA.set_ zS s hlt j;rw [mT 0 xs n k v.o hlt _ (HG.o k hlt)] at t;obtain⟨q0,q1,q2,sc0,sf0,sc1,sf1,sc2,sf2⟩:=s.ready hlt (.bool b3) (.slice A3 n3 c3);have F:=za t;have E:=za (lV (k*3) (k*3+1) (k*3+2) (.bool b3) (.slice A3 n3 c3) (.slice E3 k3 f3) C (zc d.o hb));clear s t hb j o d u;go_wp2;go_roundg (n - k)
   case measure=>omega
   case rel=>exact⟨k+1,zb,zb,by go_num,F.o,E.o⟩
  ·have hk:k=n:=zb;subst hk;have M:decide ((k:Int)<(k:Int))=false:=zE;have G:=za (mS 0 xs k v.o▸a);have d:=za hB;clear a hB;go_wp2;go_ret;exact⟨gp,rfl,C,G.o,d.o⟩
theorem XF (n:Nat)(w:World)(hn:n<=64):Calls prog 71 #[.int .i64 (n:Int)] w (m0 w n (List.replicate n 0)):=by
 unfold m0;obtain⟨ys,c⟩:∃ys,List.replicate n (0:Rat)=ys:=⟨_,rfl⟩;obtain⟨Z,hZ⟩:=iH n zb;have hmk:=λW=>(hZ W).1;have a:=za (hZ w).2;rw [c] at a⊢;have hd:decide ((n:Int)<0)=false:=decide_eq_false zb;have hd2:decide (64<(n:Int))=false:=decide_eq_false zb;have hd3:decide ((n:Int)>64)=false:=decide_eq_false zb;have hB:=za ((qZ _ w).alloc (qY _) (.cells Z 41));clear hZ c;go_enter func71,ntmps71;go_wp2
 go_ret2
 exact⟨_,rfl,qY _,a.o,hB.o⟩
def uV (n k:Nat):List Rat:=(List.replicate n 0).set k 1
theorem Ub (n k:Nat)(w:World)(hT:zu w)(hn:n<=64)(hk:k<n):Calls prog 42 #[.int .i64 (n:Int),.int .i64 (k:Int)] w (m0 w n (uV n k)):=by
 have H:=za (XF n w hn);have HT:=zj w (λw' hb=>hT.on hb);have HU:zd (uV n k=(List.replicate n 0).set k 1):=rfl;unfold m0;obtain⟨us,d⟩:∃us,uV n k=us:=⟨_,rfl⟩;rw [d] at HU⊢;have hd:decide ((k:Int)<0)=false:=decide_eq_false zb;have hd2:decide (n<=k)=false:=decide_eq_false zb;have hd3:decide ((n:Int)<=(k:Int))=false:=decide_eq_false zb;have hd4:decide ((k:Int)>=(n:Int))=false:=decide_eq_false zb;have i1:(0:Int)<=(k:Int):=zb;have i2:(k:Int)<(n:Int):=zb;clear hT d;go_enter func42,ntmps42;go_wp2_with fail;refine H.o.mono ?_;rintro e w1 ⟨g,rfl,h1,h2,hb⟩;have HR:=za h2;have HB:=za hb;clear h2 hb H;go_wp2_with fail;(with_reducible refine(pW 1 _ (HT.o _ HB.o) zg zg).mono ?_);rintro e w3 ⟨b3,A3,n3,c3,E3,k3,f3,rfl,i,hb⟩;have a:=HR.o.keep hb;have c:=wA.set_ zS a hk i;have e1:((1:Int):Rat)=1:=rfl;rw [e1,<-HU.o] at c;obtain⟨q0,q1,q2,sc0,sf0,sc1,sf1,sc2,sf2⟩:=a.ready hk (.bool b3) (.slice A3 n3 c3);have m:=za c;have j:=za (lV (k*3) (k*3+1) (k*3+2) (.bool b3) (.slice A3 n3 c3) (.slice E3 k3 f3) h1 (zc HB.o hb));clear a c hb i HR HB e1;go_wp2
 go_ret2
 exact⟨g,rfl,h1,m.o,j.o⟩
def tv (k:IntKind)(cs:Array Value):Prop:=∀v ∈ cs.toList,∀z,v≠.int k z
theorem Po {k:IntKind}{l:List Nat}(h:zH w w.heap.size 1 A n (zq k l))(hk:zh w g t cs)(a:tv k cs):0<n->∀ad,A=some ad->ad.block≠g:=λhn ad e hg=>by
 have hl:=h.len_;obtain⟨ad',e',_,hc⟩:=h.2 hn;rw [e] at e';injection e' with e';subst e';have h0:=hc 0 (.int k (l.getD 0 0:Nat)) (mQ k _ 0 zb);have e0:ad.add 0=ad:=by unfold Addr.add;rw [if_pos rfl]
 rw [e0] at h0;obtain⟨bk,off,pr⟩:=ad;simp only at hg;subst hg;unfold zh at hk;cases pr with
 |none=>
   rw [show w.cell? ⟨bk,off,none⟩=cs[off]? from cell_of_row w bk off _ t (0,0) hk,<-QM] at h0;exact a _ (QJ h0) _ rfl
 |some q=>simp [World.cell?,hk] at h0
theorem X0 {x:Nat}(h:zn w x A n c)(hk:zh w g t cs)(a:tv .u64 cs)(ho:ya g w w'):zn w' x A n c:=by
 have d:=Po h.1 hk a;refine⟨⟨h.1.1,λhn=>?_⟩,h.2⟩;obtain⟨ad,e,hb,hc⟩:=h.1.2 hn;refine⟨ad,e,qJ hb ho.1,λj v hv=>?_⟩;rw [ho.2 (ad.add j) (by rw [y8];exact hb) (by rw [y8];exact d hn ad e)];exact hc j v hv
theorem oG (hk:zh w g t cs)(a:tv .u64 cs)(ho:ya g w w'){r:Rat}{b:Bool}{A:ze}{n c:Nat}{E:ze}{k f:Nat}(h:zo w r b A n c E k f):zo w' r b A n c E k f:=by
 obtain⟨⟨h1,h2⟩,x,e,h3⟩:=h;exact⟨⟨h1,X0 h2 hk a ho⟩,x,e,X0 h3 hk a ho⟩
theorem UM (A:ze)(n c:Nat)(z:Int):tv .u64 #[.slice A n c,.int .i64 z]:=by intro v hv z9 e;simp at hv;rcases hv with rfl|rfl<;>cases e
theorem oB (A:ze)(n c:Nat)(z:Int):∀u ∈(#[.slice A n c,.int .i64 z]:Array Value).toList,∀b,u≠.bool b:=by intro v hv b e;simp at hv;rcases hv with rfl|rfl<;>cases e
theorem Za (h:zU w A n c xs)(hk:zh w g t cs)(hs:∀u ∈ cs.toList,∀b,u≠.bool b)(a:tv .u64 cs)(ho:ya g w w'):zU w' A n c xs:=
 dH h hk hs ho (λh5=>oG hk a ho h5)
def vl (w:World)(b:Nat)(t:TypeId):Prop:=∃cs,zh w b t cs
theorem vl.below (h:vl w b t)(hb:Below w.heap.size w w'):vl w' b t:=by
 obtain⟨cs,hk⟩:=h;exact⟨cs,zf hb hk⟩
theorem vl.set_ (h:vl w b t)(g i:Nat)(v:Value):vl (w.setCell ⟨g,i,none⟩ v) b t:=by
 obtain⟨cs,hk⟩:=h;by_cases hg:b=g
 ·subst hg;exact⟨_,hk.set_ i v⟩
 ·exact⟨cs,zh.far (p:=⟨g,i,none⟩) hk hg v⟩
theorem vl.ne {s:TypeId}(h:vl w b t)(hk:zh w g s cs)(hn:t≠s):b≠g:=λe=>by
 obtain⟨ds,hd⟩:=h;subst e;unfold zh at hd hk;rw [hd] at hk;injection hk with hk;injection hk with _ hk;exact hn hk
structure yF (w:World)(A:ze)(n c m:Nat)(M:List (List Rat)):Prop where
 dims:zM M n m
 fits:n<=c
 most:c<=9223372036854775807
 hn:n<=64
 hm:m<=64
 rows:y5 (zY zo) w A n M
 ty:∀ad,A=some ad->vl w ad.block 64
theorem yF.keep {w':World}(h:yF w A n c m M)(hb:Below w.heap.size w w'):yF w' A n c m M:={h with rows:=h.rows.below (zN zS) hb,ty:=λad e=>(h.ty ad e).below hb}
theorem yF.nil (w:World):yF w none 0 0 0 []:=⟨VT 0,qY _,zg,zg,zg,y5.nil w none,λad e=>by cases e⟩
theorem yF.offz {q:Nat}(h:yF w A n c m M)(hk:zh w g t #[.slice B p q,.int .i64 z])(x y:Value)(ht:64≠t:=by decide):yF ((w.setCell ⟨g,0,none⟩ x).setCell ⟨g,1,none⟩ y) A n c m M:=
 { h with
  rows:=h.rows.off (λad e=>(h.ty ad e).ne hk ht) (ya.of_far (uj _ _ _ _)) (λh3=>Za h3 hk (oB _ _ _ _) (UM _ _ _ _) (ya.of_far (uj _ _ _ _)))
  ty:=λad e=>((h.ty ad e).set_ _ _ _).set_ _ _ _}
theorem zU.offz {q:Nat}(h:zU w A n c xs)(hk:zh w g t #[.slice B p q,.int .i64 z])(x y:Value):zU ((w.setCell ⟨g,0,none⟩ x).setCell ⟨g,1,none⟩ y) A n c xs:=
 Za h hk (oB _ _ _ _) (UM _ _ _ _) (ya.of_far (uj _ _ _ _))
theorem yF.row {m:Nat}(h:yF w A n c m M)(hb:Below w.heap.size w wr){i:Nat}(hi:i<n):∃(ad:Addr) (B:ze) (d:Nat),A=some ad/\ad.block<w.heap.size/\wr.cell? (ad.add i)=some (.slice B m d)/\zU wr B m d (M.getD i []):=
 h.rows.get (zN zS) hb hi (h.dims.row hi)
theorem yF.place (h:yF w A n c m M)(hb:Below w.heap.size w wr){i j:Nat}(hi:i<n)(hj:j<m):∃(ad:Addr) (B:ze) (d:Nat),A=some ad/\ad.block<w.heap.size/\wr.cell? (ad.add i)=some (.slice B m d)/\
  ∃(ae:Addr) (b1:Bool) (B1:ze) (m1 d1:Nat) (E1:ze) (u1 v1:Nat),B=some ae/\ae.block<wr.heap.size/\wr.cell? (ae.add (j*3))=some (.bool b1)/\wr.cell? ⟨(ae.add (j*3)).block,(ae.add (j*3)).off+1,none⟩=some (.slice B1 m1 d1)/\wr.cell? ⟨(ae.add (j*3)).block,(ae.add (j*3)).off+2,none⟩=some (.slice E1 u1 v1)/\zo wr (zv M i j) b1 B1 m1 d1 E1 u1 v1:=by
 obtain⟨ad,B,d,e,h1,h2,h3⟩:=h.row hb hi;obtain⟨ae,b1,B1,m1,d1,E1,u1,v1,e4,h4,h5,h6,h7,h8⟩:=h3.get (qZ _ _) hj;exact⟨ad,B,d,e,h1,h2,ae,b1,B1,m1,d1,E1,u1,v1,e4,h4,h5,h6,h7,h8⟩
def zV (K:Nat)(M:List (List Rat)):Prop:=∀L ∈ M,zK K L
theorem zV.up (h:zV K M)(e:K<=K'):zV K' M:=λL hL=>(h L hL).up e
theorem zV.row {i:Nat}(h:zV K M)(hi:i<M.length):zK K (M.getD i []):=h _ (QJ (vY hi))
theorem zV.at_ {n i j:Nat}(h:zV K M)(hd:zM M n m)(hi:i<n)(hj:j<m):zm K (zv M i j):=by
 have hl:=hd.rows;have hr:=hd.row hi;exact(h.row (i:=i) zb).at_ zb
theorem zV.nil (K:Nat):zV K []:=λL hL=>by cases hL
theorem zV.tab {f:Nat->Nat->Rat}(h:∀r c,r<n->c<m->zm K (f r c)):zV K (vk n m f):=λL hL x hx=>by
 unfold vk at hL;obtain⟨r,hr,rfl⟩:=List.mem_map.1 hL;obtain⟨c,hc,rfl⟩:=List.mem_map.1 hx;exact h r c (List.mem_range.1 hr) (List.mem_range.1 hc)
theorem zV.col (h:zV K M)(hd:zM M n m)(hc:c<m):zK K (um n M c):=λx hx=>by
 unfold um at hx;obtain⟨r,hr,rfl⟩:=List.mem_map.1 hx;exact h.at_ hd (List.mem_range.1 hr) hc
theorem zV.mul {A B:List (List Rat)}(hA:zV K A)(hB:zV K' B)(dA:zM A n k)(dB:zM B k m):zV (1+k*(K+K'+1)) (dZ n k m A B):=zV.tab λr c hr hc=>by
 have hl:=dA.rows;exact kM (dA.row hr) (fv k B c) (hA.row zb) (hB.col dB hc)
def mX (w:World)(n m:Nat)(M:List (List Rat))(e:Ending)(w':World):Prop:=∃(A:ze) (c:Nat),e=.returned (.agg #[.slice A n c,.int .i64 (m:Int)])/\yF w' A n c m M/\(∀ad,A=some ad->w.heap.size<=ad.block)/\Below w.heap.size w w'
def iw (w:World)(n m:Nat)(M:List (List Rat))(e:Ending)(w':World):Prop:=∃(A:ze) (c:Nat),e=.returned (.tuple #[.agg #[.slice A n c,.int .i64 (m:Int)],.bool true])/\yF w' A n c m M/\(∀ad,A=some ad->w.heap.size<=ad.block)/\Below w.heap.size w w'
def Wb (w:World)(e:Ending)(w':World):Prop:=e=.returned (.tuple #[.agg #[.slice none 0 0,.int .i64 0],.bool false])/\Below w.heap.size w w'
theorem ZZ {q:Nat}(h:yF W A n c m M)(hf:∀ad,A=some ad->g<ad.block)(k:zh W g 28 #[.slice B p q,.int .i64 z])(hB:Below w.heap.size w W)(hg:w.heap.size<=g):
  mX w n m M (.returned (.agg #[.slice A n c,.int .i64 (m:Int)])) ((W.setCell ⟨g,0,none⟩ (.slice A n c)).setCell ⟨g,1,none⟩ (.int .i64 (m:Int))):=
 ⟨A,c,rfl,h.offz k _ _,λad e=>by have:=hf ad e;omega,tA _ _ hg hB⟩
theorem kV {q:Nat}(h:yF W A n c m M)(hf:∀ad,A=some ad->g<ad.block)(k:zh W g 28 #[.slice B p q,.int .i64 z])(hB:Below w.heap.size w W)(hg:w.heap.size<=g):
  iw w n m M (.returned (.tuple #[.agg #[.slice A n c,.int .i64 (m:Int)],.bool true])) ((W.setCell ⟨g,0,none⟩ (.slice A n c)).setCell ⟨g,1,none⟩ (.int .i64 (m:Int))):=
 ⟨A,c,rfl,h.offz k _ _,λad e=>by have:=hf ad e;omega,tA _ _ hg hB⟩
theorem oE (A:ze)(n c:Nat)(z:Int)(w:World):Calls prog 15 #[.agg #[.slice A n c,.int .i64 z]] w (λe w'=>e=.returned (.int .i64 (n:Int))/\Below w.heap.size w w'):=by
 obtain⟨a,d,bz⟩:=zw w 28 #[.slice A n c,.int .i64 z];obtain⟨g0,g1⟩:=d.c2;have HB:=za a;clear a d bz;go_enter func15,ntmps15;go_wp2;go_ret;exact⟨rfl,HB.o⟩
theorem uP (A:ze)(n c:Nat)(z:Int)(w:World):Calls prog 32 #[.agg #[.slice A n c,.int .i64 z]] w (λe w'=>e=.returned (.int .i64 z)/\Below w.heap.size w w'):=by
 obtain⟨a,d,bz⟩:=zw w 28 #[.slice A n c,.int .i64 z];obtain⟨g0,g1⟩:=d.c2;have HB:=za a;clear a d bz;go_enter func32,ntmps32;go_wp2;go_ret;exact⟨rfl,HB.o⟩
def sx (r c:Int):Bool:=decide (0<=r)&&decide (r<=64)&&decide (0<=c)&&decide (c<=64)
theorem Uk (hn:n<=64)(hm:m<=64):sx (n:Int) (m:Int)=true:=by
 unfold sx;rw [decide_eq_true (show(0:Int)<=(n:Int) by omega),decide_eq_true (show(n:Int)<=64 by omega),decide_eq_true (show(0:Int)<=(m:Int) by omega),decide_eq_true (show(m:Int)<=64 by omega)];rfl
theorem nT (r c:Int)(w:World):Calls prog 62 #[.int .i64 r,.int .i64 c] w (λe w'=>e=.returned (.bool (sx r c))/\w=w'):=by
 by_cases h1:0<=r
 ·have d1:decide (0<=r)=true:=decide_eq_true h1;by_cases h2:r<=64
  ·have d2:decide (r<=64)=true:=decide_eq_true h2;by_cases h3:0<=c
   ·have d3:decide (0<=c)=true:=decide_eq_true h3;obtain⟨b,d4⟩:∃b,decide (c<=64)=b:=⟨_,rfl⟩;have e:sx r c=b:=by unfold sx;rw [d1,d2,d3,d4];rfl
    rw [e];clear h1 h2 h3 e;go_enter func62,ntmps62;go_wp2;go_ret;exact⟨rfl,rfl⟩
   ·have d3:decide (0<=c)=false:=decide_eq_false h3;have e:sx r c=false:=by unfold sx;rw [d1,d2,d3];rfl
    rw [e];clear h1 h2 h3 e;go_enter func62,ntmps62;go_wp2;go_ret;exact⟨rfl,rfl⟩
  ·have d2:decide (r<=64)=false:=decide_eq_false h2;have e:sx r c=false:=by unfold sx;rw [d1,d2];rfl
   rw [e];clear h1 h2 e;go_enter func62,ntmps62;go_wp2;go_ret;exact⟨rfl,rfl⟩
 ·have d1:decide (0<=r)=false:=decide_eq_false h1;have e:sx r c=false:=by unfold sx;rw [d1];rfl
  rw [e];clear h1 e;go_enter func62,ntmps62;go_wp2;go_ret;exact⟨rfl,rfl⟩
def tg (r:Int)(n:Nat):Bool:=decide (0<=r)&&decide (r<(n:Int))
theorem ZH (h:k<n):tg (k:Int) n=true:=by
 unfold tg;rw [decide_eq_true (show(0:Int)<=(k:Int) by omega),decide_eq_true (show(k:Int)<(n:Int) by omega)];rfl
theorem Rj (A:ze)(n c:Nat)(z r:Int)(w:World):Calls prog 122 #[.agg #[.slice A n c,.int .i64 z],.int .i64 r] w (λe w'=>e=.returned (.bool (tg r n))/\Below w.heap.size w w'):=by
 obtain⟨a,d,bz⟩:=zw w 28 #[.slice A n c,.int .i64 z];obtain⟨g0,g1⟩:=d.c2;have HB:=za a;clear a d bz;by_cases h1:0<=r
 ·have d1:decide (0<=r)=true:=decide_eq_true h1;obtain⟨b,d4⟩:∃b,decide (r<(n:Int))=b:=⟨_,rfl⟩;have e:tg r n=b:=by unfold tg;rw [d1,d4];rfl
  rw [e];clear h1 e;have H:=λW=>za (oE A n c z W);go_enter func122,ntmps122;go_wp2_with fail;refine(H _).o.mono ?_;rintro e w1 ⟨rfl,hb⟩;have g:=za (zc HB.o hb);clear hb;go_wp2;go_ret;exact⟨rfl,g.o⟩
 ·have d1:decide (0<=r)=false:=decide_eq_false h1;have e:tg r n=false:=by unfold tg;rw [d1];rfl
  rw [e];clear h1 e;go_enter func122,ntmps122;go_wp2;go_ret;exact⟨rfl,HB.o⟩
theorem Ri (A:ze)(n c m:Nat)(r:Int)(w:World):Calls prog 123 #[.agg #[.slice A n c,.int .i64 (m:Int)],.int .i64 r] w (λe w'=>e=.returned (.bool (tg r m))/\Below w.heap.size w w'):=by
 obtain⟨a,d,bz⟩:=zw w 28 #[.slice A n c,.int .i64 (m:Int)];obtain⟨g0,g1⟩:=d.c2;have HB:=za a;clear a d bz;by_cases h1:0<=r
 ·have d1:decide (0<=r)=true:=decide_eq_true h1;obtain⟨b,d4⟩:∃b,decide (r<(m:Int))=b:=⟨_,rfl⟩;have e:tg r m=b:=by unfold tg;rw [d1,d4];rfl
  rw [e];clear h1 e;go_enter func123,ntmps123;go_wp2;go_ret;exact⟨rfl,HB.o⟩
 ·have d1:decide (0<=r)=false:=decide_eq_false h1;have e:tg r m=false:=by unfold tg;rw [d1];rfl
  rw [e];clear h1 e;go_enter func123,ntmps123;go_wp2;go_ret;exact⟨rfl,HB.o⟩
