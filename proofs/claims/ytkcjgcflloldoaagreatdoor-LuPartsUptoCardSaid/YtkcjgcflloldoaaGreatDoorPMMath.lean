/- What this claim leans on. -/
import Derived.Test.YtkcjgcflloldoaaGreatDoorPJ8Add
import Derived.Test.YtkcjgcflloldoaaGreatDoorPJ8Mul
set_option linter.unusedVariables false
set_option linter.unusedSimpArgs false
namespace Go.Proofs.YtkcjgcflloldoaaGreatDoor
open Go Go.RowKit Go.Proofs.Tryz
set_option maxHeartbeats 16000000
variable {ad:Addr}{b:Bool}{M:List (List Rat)}{zs:List Int}{xs:List Rat}{K c g k m n:Nat}{f:Nat->Rat}{t:TypeId}{v:Value}{w w':World}{A E:ze}
def zv (k:Nat)(f:Nat->Rat):Rat:=tL ((List.range k).map f)
theorem gX (f:Nat->Rat):zv 0 f=0:=rfl
theorem P5 (rs:List Rat)(r:Rat):tL (rs++[r])=tL rs+r:=by
 unfold tL;rw [YJ];rfl
theorem xz (k:Nat)(f:Nat->Rat):zv (k+1) f=zv k f+f k:=by
 unfold zv;rw [YK,YG,yV,List.map_nil,P5]
theorem yj {f g:Nat->Rat}(h:∀i,i<k->f i=g i):zv k f=zv k g:=by
 unfold zv;congr 1;exact List.map_congr_left λi hi=>h i (List.mem_range.1 hi)
theorem u3 (h:∀i,i<k->f i=0):zv k f=0:=by
 induction k with
 |zero=>rfl
 |succ k ih=>rw [xz,ih (λi hi=>h i za),h k za,xE]
theorem PL (a b c d:Rat):(a+b)+(c+d)=(a+c)+(b+d):=by
 rw [Rat.add_assoc,Rat.add_assoc,<-Rat.add_assoc b c d,<-Rat.add_assoc c b d,Rat.add_comm b c]
theorem sF (k:Nat)(f g:Nat->Rat):zv k (λi=>f i+g i)=zv k f+zv k g:=by
 induction k with
 |zero=>exact(xE 0).symm
 |succ k ih=>rw [xz,xz,xz,ih,PL]
theorem vL (k:Nat)(a:Rat)(f:Nat->Rat):a*zv k f=zv k (λi=>a*f i):=by
 induction k with
 |zero=>exact XQ a
 |succ k ih=>rw [xz,xz,Rat.mul_add,ih]
theorem NU (k:Nat)(a:Rat)(f:Nat->Rat):zv k f*a=zv k (λi=>f i*a):=by
 induction k with
 |zero=>exact yX a
 |succ k ih=>rw [xz,xz,Rat.add_mul,ih]
theorem Y2 (n k:Nat)(f:Nat->Nat->Rat):zv n (λi=>zv k (λj=>f i j))=zv k (λj=>zv n (λi=>f i j)):=by
 induction n with
 |zero=>exact(u3 λi _=>rfl).symm
 |succ n ih=>
   rw [xz,ih,<-sF];exact yj λj _=>(xz n λi=>f i j).symm
theorem NV (hc:c<k)(f:Nat->Rat):zv k (λi=>f i*(if i=c then 1 else 0))=f c:=by
 induction k with
 |zero=>omega
 |succ k ih=>
   rw [xz];by_cases h:c=k
   ·subst h;rw [if_pos rfl,Rat.mul_one,u3 λi hi=>by rw [if_neg za,XQ],YY]
   ·rw [if_neg za,XQ,xE,ih za]
theorem OR:∀{k:Nat} {xs ys:List Rat},xs.length=k->ys.length=k->sM xs ys=zv k λi=>xs.getD i 0*ys.getD i 0
 |k,xs,ys,hx,hy=>by
   unfold sM zv;congr 1;apply YX
   ·simp [hx,hy]
   ·intro i h1 h2;have h3:i<k:=by simpa using h2
    rw [List.getElem_zipWith,List.getElem_map,List.getElem_range,qQ,qQ,qY za,qY za];rfl
def wF (n m:Nat)(f:Nat->Nat->Rat):List (List Rat):=(List.range n).map λr=>(List.range m).map (f r)
def zn (M:List (List Rat))(r c:Nat):Rat:=(M.getD r []).getD c 0
structure zQ (M:List (List Rat))(n m:Nat):Prop where
 rows:M.length=n
 cols:∀L ∈ M,L.length=m
theorem zQ.row (h:zQ M n m){r:Nat}(hr:r<n):(M.getD r []).length=m:=by
 have hl:=h.rows;rw [qQ,qY za];exact h.cols _ (xM _)
theorem gZ (n m:Nat)(f:Nat->Nat->Rat):zQ (wF n m f) n m:=⟨by simp [wF],λL hL=>by
 obtain⟨r,_,rfl⟩:=List.mem_map.1 hL;simp⟩
theorem TO {f:Nat->Nat->Rat}{r:Nat}(hr:r<n):(wF n m f).getD r []=(List.range m).map (f r):=by
 unfold wF;rw [qQ,qW,xD hr];rfl
theorem Ok (hc:c<m):((List.range m).map f).getD c 0=f c:=by
 rw [qQ,qW,xD hc];rfl
theorem fC {f:Nat->Nat->Rat}{r:Nat}(hr:r<n)(hc:c<m):zn (wF n m f) r c=f r c:=by
 unfold zn;rw [TO hr,Ok hc]
theorem Ol (h:xs.length=m):(List.range m).map (λc=>xs.getD c 0)=xs:=by
 subst h;apply YX
 ·simp
 ·intro i h1 h2;rw [List.getElem_map,List.getElem_range,qQ,qY h2];rfl
theorem zQ.eq (h:zQ M n m):wF n m (zn M)=M:=by
 have hl:=h.rows;unfold wF;apply YX
 ·simp [hl]
 ·intro i h1 h2;rw [List.getElem_map,List.getElem_range];have e:M.getD i []=M[i]:=by rw [qQ,qY h2];rfl
  show(List.range m).map (λc=>(M.getD i []).getD c 0)=M[i];rw [e];exact Ol (h.cols _ (xM h2))
def uR (n:Nat)(M:List (List Rat))(c:Nat):List Rat:=(List.range n).map λr=>zn M r c
theorem cR (n:Nat)(M:List (List Rat))(c:Nat):(uR n M c).length=n:=by simp [uR]
def tj (n m:Nat)(M:List (List Rat)):List (List Rat):=wF m n λr c=>zn M c r
theorem N2 {r:Nat}(hr:r<m):(tj n m M).getD r []=uR n M r:=TO hr
def ZP (n k m:Nat)(A B:List (List Rat)):List (List Rat):=wF n m λr c=>sM (A.getD r []) (uR k B c)
def tA (n:Nat):List (List Rat):=wF n n λr c=>if r=c then 1 else 0
theorem Wc {r:Nat}(hr:r<m)(hc:c<n):zn (tj n m M) r c=zn M c r:=fC hr hc
theorem Y4 (n m:Nat)(M:List (List Rat)):zQ (tj n m M) m n:=gZ _ _ _
theorem Ty (m:Nat):zQ [] 0 m:=⟨rfl,λL hL=>by cases hL⟩
def vz (M:List (List Rat))(r:Nat):List (List Rat):=M.eraseIdx r
theorem Oc {v:List Rat}(h:M.length=n):vz (M++[v]) n=M:=by
 subst h;unfold vz;rw [List.eraseIdx_append_of_length_le (qX _),XG];simp
set_option maxRecDepth 100000
structure bD (w:World)(A:ze)(n c:Nat)(rs:List Rat):Prop where
 len:rs.length=n
 fits:n<=c
 most:c<=9223372036854775807
 num:∀i,i<n->∃(ad:Addr) (b:Bool) (B:ze) (m d:Nat) (E:ze) (u v:Nat),A=some ad/\ad.block<w.heap.size/\w.cell? (ad.add (i*3))=some (.bool b)/\w.cell? (ad.add (i*3+1))=some (.slice B m d)/\w.cell? (ad.add (i*3+2))=some (.slice E u v)/\zp w (rs.getD i 0) b B m d E u v
theorem bD.below {rs:List Rat}(h:bD w A n c rs)(hb:Below w.heap.size w w'):bD w' A n c rs:=
 ⟨h.len,h.fits,h.most,λi hi=>by
  obtain⟨ad,b,B,m,d,E,u,v,e,h1,h2,h3,h4,h5⟩:=h.num i hi;exact⟨ad,b,B,m,d,E,u,v,e,qJ h1 hb.size,zq hb h2,zq hb h3,zq hb h4,h5.below hb⟩⟩
def ro (rs:List Rat):Rat:=rs.foldl (λa b=>a+b) 0
theorem NW (rs:List Rat)(r:Rat):ro (rs++[r])=ro rs+r:=by unfold ro;rw [YJ];rfl
theorem NX (rs:List Rat)(k:Nat)(h:k<rs.length):ro (rs.take (k+1))=ro (rs.take k)+rs.getD k 0:=by
 rw [qC h,NW,qQ,qY h];rfl
theorem Om {r:Rat}{f:Nat}{p:Bool}{q q2:ze}{r1 s r2 s2:Nat}(h:zp w r b A n c E k f)(kd:zh w g t #[.bool p,.slice q r1 s,.slice q2 r2 s2])(x y z:Value):
  zp (((w.setCell ⟨g,0,none⟩ x).setCell ⟨g,1,none⟩ y).setCell ⟨g,2,none⟩ z) r b A n c E k f:=fq h kd (yb.s3 _ _ _ _ _ _ _) (vA _ _ _ _ _)
theorem rQ {g':Nat}{cs:Array Value}(h:zh w g t cs)(a:g≠g')(x y z:Value):zh (((w.setCell ⟨g',0,none⟩ x).setCell ⟨g',1,none⟩ y).setCell ⟨g',2,none⟩ z) g t cs:=((h.far (p:=⟨g',0,none⟩) a x).far (p:=⟨g',1,none⟩) a y).far (p:=⟨g',2,none⟩) a z
theorem nT (h:w.cell? (ad.add (k+1))=some v):w.cell? ⟨(ad.add k).block,(ad.add k).off+1,none⟩=some v:=by
 rw [<-Go.Deep.add_add] at h;exact h
theorem nU (h:w.cell? (ad.add (k+2))=some v):w.cell? ⟨(ad.add k).block,(ad.add k).off+2,none⟩=some v:=by
 rw [<-Go.Deep.add_add] at h;exact h
theorem ls (rs:List Rat)(A:ze)(n c K:Nat)(w:World)(hT:zu w)(h:bD w A n c rs)(hn:n<=1073741824)(hK:K<=67108864)(he:∀i,i<n->zm K (rs.getD i 0))(hs:∀k,k<=n->zm K (ro (rs.take k))):
  Calls prog 110 #[.slice A n c] w (yp w (ro rs)):=by
 have F:=zj w (λw' h=>hT.on h);have HN:=zj w (λw' hb=>h.below hb);have HS:=zb hs;have HE:=zb he;have E:=zb (λk (hk:k<n)=>NX rs k (by rw [h.len];exact hk));have HF:zd (ro (rs.take n)=ro rs):=by
  show _=_;rw [qV (by rw [h.len];exact qX _)]
 clear h hs he hT;go_enter func110,ntmps110;go_wp2_with fail;obtain⟨hB,a,hp,b5⟩:=z8 w 54 54 #[.bool false,.slice none 0 0,.slice none 0 0] #[.bool false,.slice none 0 0,.slice none 0 0];generalize hV:(w.alloc (.cells #[.bool false,.slice none 0 0,.slice none 0 0] 54)).alloc (.cells #[.bool false,.slice none 0 0,.slice none 0 0] 54)=V1 at*;clear hV b5;obtain⟨gp,C⟩:∃g,w.heap.size+1=g:=⟨_,rfl⟩;rw [C] at hp⊢;have hgw:w.heap.size<gp:=za
 go_loopg [9] (n+1) (λg ix wr=>∃(k:Nat) (b:Bool) (Ap:ze) (np cp:Nat) (Ep:ze) (kp fp:Nat),k<=n/\n<g+k/\ix=.int .i64 k/\zp wr (ro (rs.take k)) b Ap np cp Ep kp fp/\zh wr gp 54 #[.bool b,.slice Ap np cp,.slice Ep kp fp]/\Below w.heap.size w wr/\zh wr w.heap.size 54 #[.bool false,.slice none 0 0,.slice none 0 0])
 case atStart=>exact⟨0,false,none,0,0,none,0,0,QQ _,za,rfl,Ya _,hp,hB,a⟩
 case round=>
  clear hp hB a C;obtain⟨k,b,Ap,np,cp,Ep,kp,fp,o,hg,rfl,hw,hp,hB,a⟩:=hrel;by_cases hlt:k<n
  ·obtain⟨ad,b1,B1,m1,d1,E1,u1,v1,rfl,hadb,H,j,m,hx⟩:=(HN.o _ hB).num k hlt;have HM:=zj wr (λw' hb=>Zv (ro (rs.take k)) (rs.getD k 0) b Ap np cp Ep kp fp b1 B1 m1 d1 E1 u1 v1 w' (F.o _ (zc hB hb)) (hw.below hb) (hx.below hb) (zm.fit (HS.o k o) hw hK) (zm.fit (HE.o k hlt) hx hK));have j:=nT j;have m:=nU m;have i1:(0:Int)<=(k:Int):=za;have i2:(k:Int)<(n:Int):=za;obtain⟨p0,p1,p2⟩:=hp.c3;obtain⟨st,d2,d3⟩:=zw wr 54 #[.bool b1,.slice B1 m1 d1,.slice E1 u1 v1];obtain⟨q0,q1,q2⟩:=d2.c3;have p3:=zq st p0;have p4:=zq st p1;have p5:=zq st p2;have y:=zb (HM.o _ st);have t:=zb (zc hB st);have z:=zb (zg st hp);have u:=zb (zg st a);clear hw hx hB hp a HM st d2 d3;go_wp2_with fail;refine y.o.mono ?_;rintro e w3 ⟨b3,A3,n3,c3,E3,k3,f3,rfl,s,hb⟩;rw [<-E.o k hlt] at s;have B:=zc t.o hb;have d:=zg hb z.o;have D:=zg hb u.o;obtain⟨M,P,N,Q,O,R⟩:=yf d (.bool b3) (.slice A3 n3 c3);have L:=Om s d (.bool b3) (.slice A3 n3 c3) (.slice E3 k3 f3);have G:=tw (.bool b3) (.slice A3 n3 c3) (.slice E3 k3 f3) (by show w.heap.size<=gp;omega) B;have J:=ym d (.bool b3) (.slice A3 n3 c3) (.slice E3 k3 f3);have I:=rQ D (by show w.heap.size≠gp;omega) (.bool b3) (.slice A3 n3 c3) (.slice E3 k3 f3);clear hb B d D s y t z u H j m p0 p1 p2 p3 p4 p5 q0 q1 q2;go_wp2;go_roundg (n - k)
   case measure=>omega
   case rel=>exact⟨k+1,b3,A3,n3,c3,E3,k3,f3,za,za,by go_num,L,J,G,I⟩
  ·have o:k=n:=za;subst o;rw [HF.o] at hw;obtain⟨p0,p1,p2⟩:=hp.c3;obtain⟨M,P,N,Q,O,R⟩:=yf a (.bool b) (.slice Ap np cp);obtain⟨r0,r1,r2⟩:=(ym a (.bool b) (.slice Ap np cp) (.slice Ep kp fp)).c3;have HG:=zb (vp hw a hB (qX _));clear hw hp a hB;go_wp2;refine bodyPost_ret (v:=.agg #[.bool b,.slice Ap np cp,.slice Ep kp fp]) (by simp [results,results110,go_sem,r0,r1,r2]) rfl ?_;exact HG.o
theorem fz (p:Int)(w:World)(hT:zu w)(d: -9223372036854775808<=p)(g:p<=9223372036854775807):
  Calls prog 72 #[.int .i64 p] w (yp w (p:Rat)):=by
 have j:=zb (vl (T:=zu));have HT:=zj w (λw' hb=>hT.on hb);have HTB:=HT;obtain⟨K,m⟩:∃K,67108864=K:=⟨_,rfl⟩;have hKK:K<=67108864:=za;have hK0:0<K:=za;clear hT m;go_enter func72,ntmps72;have hB:=qZ w.heap.size w;obtain⟨a,c,bz⟩:=zw w 54 #[.bool false,.slice none 0 0,.slice none 0 0];have hB:=zc hB a;have k1:=c;clear a c bz;go_wp2_with fail;generalize w.alloc (.cells #[.bool false,.slice none 0 0,.slice none 0 0] 54)=W1 at*;have HZ2:zd (Sz (1) (p).natAbs):=(by show Int.natAbs p<18446744073709551616^1;have e1: -9223372036854775808<=p:=d;have e2:p<=9223372036854775807:=g;omega);(with_reducible refine(j.o.of p _ (HT.o _ hB) d g).mono ?_);rintro e wc2 ⟨b2,B2,m2,d2,rfl,i,hb⟩;have hB:=zc hB hb;have k1:=zg hb k1;have k:=zb i;clear hb i;obtain⟨sc0,sf0,sc1,sf1,sc2,sf2⟩:=yf k1 (.bool b2) (.slice B2 m2 d2);obtain⟨r0,r1,r2⟩:=(ym k1 (.bool b2) (.slice B2 m2 d2) (.slice none 0 0)).c3;have HG:=zb (vp (Zf k.o) k1 hB za);go_wp2;refine bodyPost_ret (v:=.agg #[.bool b2,.slice B2 m2 d2,.slice none 0 0]) (by simp [results,results72,go_sem,r0,r1,r2]) rfl ?_;exact HG.o
theorem Nh (z:Int)(d:Bool)(c:ze)(a g:Nat)(w:World)(hT:zu w)(k:z6 w z d c a g)(y:a<=67108864):
  Calls prog 129 #[.agg #[.bool d,.slice c a g]] w (yp w (z:Rat)):=by
 have HT:=zj w (λw' hb=>hT.on hb);have HTB:=HT;obtain⟨K,u⟩:∃K,67108864=K:=⟨_,rfl⟩;have hKK:K<=67108864:=za;have hK0:0<K:=za;have i:=zj w (λw' b=>k.below b);have j:zd (Sz K z.natAbs):=Sz.of_words k.words za;clear k y;clear hT u;go_enter func129,ntmps129;have hB:=qZ w.heap.size w;obtain⟨m,n,o,bz⟩:=z8 w 52 54 #[.bool d,.slice c a g] #[.bool false,.slice none 0 0,.slice none 0 0];have hB:=zc hB m;obtain⟨g1,e1⟩:=n.c2;have k2:=o;clear m n o bz;go_wp2_with fail;generalize (w.alloc (.cells #[.bool d,.slice c a g] 52)).alloc (.cells #[.bool false,.slice none 0 0,.slice none 0 0] 54)=W1 at*;have HZ3:zd (Sz (K) (z).natAbs):=j.o;(with_reducible refine(Yk (z) d c a g _ (HT.o _ hB) (i.o _ hB) (y9 j (i.o _ hB))).mono ?_);rintro e wc2 ⟨b3,B3,m3,d3,rfl,s,hb⟩;have hB:=zc hB hb;obtain⟨g1,e1⟩:=xl hb g1 e1;have k2:=zg hb k2;have t:=zb s;clear hb s;obtain⟨sc0,sf0,sc1,sf1,sc2,sf2⟩:=yf k2 (.bool b3) (.slice B3 m3 d3);obtain⟨r0,r1,r2⟩:=(ym k2 (.bool b3) (.slice B3 m3 d3) (.slice none 0 0)).c3;have HG:=zb (vp (Zf t.o) k2 hB za);go_wp2;refine bodyPost_ret (v:=.agg #[.bool b3,.slice B3 m3 d3,.slice none 0 0]) (by simp [results,results129,go_sem,r0,r1,r2]) rfl ?_;exact HG.o
section
variable {K K':Nat}{x y:Rat}{b b':Bool}{A A':ze}{n n' c c':Nat}{E E':ze}{k k' f f':Nat}{w:World}
theorem eN (hT:zu w)(h:zp w x b A n c E k f)(h':zp w y b' A' n' c' E' k' f')(z:zm K x)(z':zm K' y)(hK:K<=67108864:=by omega)(a:K'<=67108864:=by omega):
  Calls prog 59 #[.agg #[.bool b,.slice A n c,.slice E k f],.agg #[.bool b',.slice A' n' c',.slice E' k' f']] w (yp w (x+y)):=Zv x y b A n c E k f b' A' n' c' E' k' f' w hT h h' (z.fit h hK) (z'.fit h' a)
theorem eP (hT:zu w)(h:zp w x b A n c E k f)(h':zp w y b' A' n' c' E' k' f')(z:zm K x)(z':zm K' y)(hK:K<=67108864:=by omega)(a:K'<=67108864:=by omega):
  Calls prog 125 #[.agg #[.bool b,.slice A n c,.slice E k f],.agg #[.bool b',.slice A' n' c',.slice E' k' f']] w (yp w (x - y)):=ST x y b A n c E k f b' A' n' c' E' k' f' w hT h h' (z.fit h hK) (z'.fit h' a)
theorem sG (hT:zu w)(h:zp w x b A n c E k f)(h':zp w y b' A' n' c' E' k' f')(z:zm K x)(z':zm K' y)(hK:K<=67108864:=by omega)(a:K'<=67108864:=by omega):
  Calls prog 56 #[.agg #[.bool b,.slice A n c,.slice E k f],.agg #[.bool b',.slice A' n' c',.slice E' k' f']] w (yp w (x*y)):=SQ x y b A n c E k f b' A' n' c' E' k' f' w hT h h' (z.fit h hK) (z'.fit h' a)
theorem eO (hT:zu w)(h:zp w x b A n c E k f)(h':zp w y b' A' n' c' E' k' f')(z:zm K x)(z':zm K' y)(hK:K<=67108864:=by omega)(a:K'<=67108864:=by omega):
  Calls prog 121 #[.agg #[.bool b,.slice A n c,.slice E k f],.agg #[.bool b',.slice A' n' c',.slice E' k' f']] w (wR w (tp x y)):=SP x y b A n c E k f b' A' n' c' E' k' f' w hT h h' (z.fit h hK) (z'.fit h' a)
theorem pV {t:Bool}(e:decide (x=y)=t)(hT:zu w)(h:zp w x b A n c E k f)(h':zp w y b' A' n' c' E' k' f')(z:zm K x)(z':zm K' y)(hK:K<=67108864:=by omega)(a:K'<=67108864:=by omega):
  Calls prog 79 #[.agg #[.bool b,.slice A n c,.slice E k f],.agg #[.bool b',.slice A' n' c',.slice E' k' f']] w (λe w'=>e=.returned (.bool t)/\Below w.heap.size w w'):=wg e (Sa x y b A n c E k f b' A' n' c' E' k' f' w hT h h' (z.fit h hK) (z'.fit h' a))
theorem WF {t:Bool}(e:decide (x=0)=t)(hT:zu w)(h:zp w x b A n c E k f)(z:zm K x)(hK:K<=67108864:=by omega):
  Calls prog 17 #[.agg #[.bool b,.slice A n c,.slice E k f]] w (λe w'=>e=.returned (.bool t)/\Below w.heap.size w w'):=wg e (tG x b A n c E k f w hT h (z.fit h hK))
end
theorem jR:∀(args:Array Value) (w':World),Sem.run prog (callFunc 56 args) w'=.ok (.enter 56 args) w':=Go.Proofs.enters_of func56 zU rfl
theorem mi:∀(args:Array Value) (w':World),Sem.run prog (callFunc 58 args) w'=.ok (.enter 58 args) w':=Go.Proofs.enters_of func58 zU rfl
theorem z7.rats (h:z7 w A n c xs):bD w A n c xs:=⟨h.len,h.fits,h.most,λi hi=>h.at_ hi 0⟩
theorem oD (rs:List Rat):ro rs=tL rs:=rfl
theorem kW (hT:zu w)(h:z7 w A n c xs)(hx:zN K xs)(hn:n<=1073741824)(hK:1+n*(K+1)<=67108864):
  Calls prog 110 #[.slice A n c] w (yp w (tL xs)):=by
 have hl:=h.len;have e:=oD xs;rw [<-e];refine ls xs A n c (1+n*(K+1)) w hT h.rats hn hK (λi hi=>(hx.at_ za).up ?_) (λk hk=>?_)
 ·have:K+1<=n*(K+1):=Nat.le_mul_of_pos_left _ za;omega
 ·rw [oD];exact lP hx hl k hk
theorem oJ {x:Rat}{f:Nat}(h:zh w g t #[.bool b,.slice A n c,.slice E k f])(hx:zp w x b A n c E k f):z7 w (some ⟨g,0,none⟩) 1 1 [x]:=
 ⟨rfl,qX _,zf,λi y hi=>by
  have h0:i=0:=by
   have:=(List.getElem?_eq_some_iff.1 hi).1;simpa using this
  subst h0;obtain rfl:x=y:=by simpa using hi
  exact⟨_,b,A,n,c,E,k,f,rfl,h.lt,by rw [wu];exact h.cell 0,by rw [wu];exact h.cell 1,by rw [wu];exact h.cell 2,hx⟩⟩
theorem iG {L:Nat}{r:Rat}{s:Bool}{D:ze}{e9:Nat}{U:ze}{u v:Nat}(hT:zu w)(hr:zp w r s D m e9 U u v)(ha:z7 w A n c xs)(zr:zm L r)(hx:zN K xs)(hn:n<=1073741824:=by omega)(hK:K<=67108864:=by omega)(hL:L<=67108864:=by omega):
  Calls prog 85 #[.agg #[.bool s,.slice D m e9,.slice U u v],.slice A n c] w (kv w n (zT r xs)):=by
 have Q:=ha.len;have F:(zT r xs).length=n:=by unfold zT;rw [QP];exact Q
 have B:∀i,i<n->(zT r xs)[i]?=some (r*xs.getD i 0):=λi hi=>by
  unfold zT;rw [qW,qQ,qY za];rfl
 have aa:zd (∀i,i<n->zm K (xs.getD i 0)):=λi hi=>hx.at_ za;unfold kv;obtain⟨zs,S⟩:∃zs,zT r xs=zs:=⟨_,rfl⟩;rw [S] at B F⊢;have HG:=zb B;have J:=zb F;have ab:=zb zr;obtain⟨M,N,bz⟩:=zw w 54 #[.bool s,.slice D m e9,.slice U u v];have HA:=zb ha;have HT:=zj w (λw' hb=>hT.on hb);have HR:=zj w (λw' hb=>hr.below hb);have z:=zb M;have C:=zb N;obtain⟨Z,hZ⟩:=jo n za;have ai:=λW=>(hZ W).1;have t:=zb (λW=>(hZ W).2);clear hT hr ha zr hx Q F S B hZ M N bz;have i0:(0:Int)<=(n:Int):=za;go_enter func85,ntmps85;go_wp2_with fail;clear ai;obtain⟨W0,o⟩:∃W,w.alloc (.cells #[.bool s,.slice D m e9,.slice U u v] 54)=W:=⟨_,rfl⟩;rw [o] at z C;have a:=t.o W0;have O:=z.o;have hsz:W0.heap.size=w.heap.size+1:=by rw [<-o];simp
 simp only [o] at*;have E:Below W0.heap.size W0 (W0.alloc (.cells Z 54)):=(qZ _ W0).alloc (qX _) _;have d:=zg E C.o;have hB:=zc O E;rw [hsz] at a;clear o z C O E hsz t;generalize W0.alloc (.cells Z 54)=W1 at*;obtain⟨gp,P⟩:∃g,w.heap.size+1=g:=⟨_,rfl⟩;rw [P] at a⊢;rw [<-lZ 0 zs n] at a;have hwg:w.heap.size+1<=gp:=za;clear P
 go_loopg [13] (n+1) (λg ix wr=>∃(k:Nat),k<=n/\n<g+k/\ix=.int .i64 k/\yn wr gp n (uJ 0 zs n k)/\Below w.heap.size w wr/\zh wr w.heap.size 54 #[.bool s,.slice D m e9,.slice U u v])
 case atStart=>exact⟨0,QQ _,za,rfl,a,hB,d⟩
 case round=>
  clear a hB d;obtain⟨k,hkn,hg,rfl,a,hB,d⟩:=hrel;by_cases hlt:k<n
  ·obtain⟨ad,b1,B1,m1,d1,E1,u1,v1,rfl,-,ac,ae,af,hx⟩:=HA.o.get hB hlt;have ag:decide ((k:Int)<(n:Int))=true:=decide_eq_true za;have i1:(0:Int)<=(k:Int):=za;have i2:(k:Int)<(n:Int):=za;obtain⟨st,d3,d4⟩:=zw wr 54 #[.bool b1,.slice B1 m1 d1,.slice E1 u1 v1];obtain⟨p0,p1,p2⟩:=d3.c3;obtain⟨g0,g1,g2⟩:=(zg st d).c3;have HX:=zb (hx.below st);have y:=zb (a.keep st);have j:=zb (zc hB st);have I:=zb (zg st d);clear hx a hB st d3 d4 d;go_wp2_with fail;(with_reducible refine(sG (HT.o _ j.o) (HR.o _ j.o) HX.o ab.o (aa.o k hlt) hL hK).mono ?_);rintro e w3 ⟨b3,A3,n3,c3,E3,k3,f3,rfl,R,hb⟩;clear ac ae af p0 p1 p2 g0 g1 g2;have G:=y.o.keep hb;have H:=wH.set_ yt G hlt R;rw [kf 0 zs n k J.o hlt _ (HG.o k hlt)] at H;obtain⟨q0,q1,q2,sc0,sf0,sc1,sf1,sc2,sf2⟩:=G.ready hlt (.bool b3) (.slice A3 n3 c3);have X:=zb H;have T:=zb (dI (k*3) (k*3+1) (k*3+2) (.bool b3) (.slice A3 n3 c3) (.slice E3 k3 f3) (show w.heap.size<=gp by omega) (zc j.o hb));have V:=zb (zh.far (p:=⟨gp,k*3+2,none⟩) (zh.far (p:=⟨gp,k*3+1,none⟩) (zh.far (p:=⟨gp,k*3,none⟩) (zg hb I.o) (by show w.heap.size≠gp;omega) (.bool b3)) (by show w.heap.size≠gp;omega) (.slice A3 n3 c3)) (by show w.heap.size≠gp;omega) (.slice E3 k3 f3));clear G H hb R HX y j I;go_wp2;go_roundg (n - k)
   case measure=>omega
   case rel=>exact⟨k+1,za,za,by go_num,X.o,T.o,V.o⟩
  ·have hk:k=n:=za;subst hk;have ag:decide ((k:Int)<(k:Int))=false:=zG;have Y:=zb (ke 0 zs k J.o▸a);have j:=zb hB;have ah:w.heap.size<=gp:=za;clear a hB d;go_wp2;go_ret;exact⟨gp,rfl,ah,Y.o,j.o⟩
structure s8 (w:World)(A:ze)(n:Nat)(zs:List Int):Prop where
 len:zs.length=n
 ints:∀i,i<n-> -9223372036854775808<=zs.getD i 0/\zs.getD i 0<=9223372036854775807
 num:∀i,i<n->∃ad:Addr,A=some ad/\w.cell? (ad.add i)=some (.int .i64 (zs.getD i 0))
def ws (zs:List Int):List Rat:=zs.map λz:Int=>(z:Rat)
theorem jw (hT:zu w)(ha:s8 w A n zs)(hn:n<=1073741824:=by omega):
  Calls prog 25 #[.slice A n c] w (kv w n (ws zs)):=by
 have D:=ha.len;have s:(ws zs).length=n:=by unfold ws;rw [QP];exact D
 have o:∀i,i<n->(ws zs)[i]?=some ((zs.getD i 0:Int):Rat):=λi hi=>by
  unfold ws;rw [qW,qQ,qY za];rfl
 have HI:=zb ha.ints;unfold kv;obtain⟨ys,G⟩:∃ys,ws zs=ys:=⟨_,rfl⟩;rw [G] at o s⊢;have HG:=zb o;have y:=zb s;have HA:=zb ha.num;have HT:=zj w (λw' hb=>hT.on hb);obtain⟨Z,hZ⟩:=jo n za;have L:=λW=>(hZ W).1;have j:=zb (λW=>(hZ W).2);clear hT ha D s G o hZ;have i0:(0:Int)<=(n:Int):=za;go_enter func25,ntmps25;go_wp2_with fail;clear L;have a:=j.o w;have hB:Below w.heap.size w (w.alloc (.cells Z 54)):=(qZ _ w).alloc (qX _) _;obtain⟨gp,C⟩:∃g,w.heap.size=g:=⟨_,rfl⟩;have F:w.heap.size<=gp:=za;rw [C] at a⊢;rw [<-lZ 0 ys n] at a;generalize w.alloc (.cells Z 54)=W1 at*;clear C j
 go_loopg [11] (n+1) (λg ix wr=>∃(k:Nat),k<=n/\n<g+k/\ix=.int .i64 k/\yn wr gp n (uJ 0 ys n k)/\Below w.heap.size w wr)
 case atStart=>exact⟨0,QQ _,za,rfl,a,hB⟩
 case round=>
  clear a hB;obtain⟨k,hkn,hg,rfl,a,hB⟩:=hrel;by_cases hlt:k<n
  ·obtain⟨ad,rfl,hc⟩:=HA.o k hlt;have B:=zq hB hc;obtain⟨z1,z2⟩:=HI.o k hlt;have v:=zb (HG.o k hlt);obtain⟨z,hz⟩:∃z,zs.getD k 0=z:=⟨_,rfl⟩;rw [hz] at B z1 z2 v;have K:decide ((k:Int)<(n:Int))=true:=decide_eq_true za;have i1:(0:Int)<=(k:Int):=za;have i2:(k:Int)<(n:Int):=za;have m:=zb a;have d:=zb hB;clear a hB hc hz;go_wp2_with fail;(with_reducible refine(fz z _ (HT.o _ d.o) z1 z2).mono ?_);rintro e w3 ⟨b3,A3,n3,c3,E3,k3,f3,rfl,E,hb⟩;clear B;have t:=m.o.keep hb;have u:=wH.set_ yt t hlt E;rw [kf 0 ys n k y.o hlt _ v.o] at u;obtain⟨q0,q1,q2,sc0,sf0,sc1,sf1,sc2,sf2⟩:=t.ready hlt (.bool b3) (.slice A3 n3 c3);have I:=zb u;have H:=zb (dI (k*3) (k*3+1) (k*3+2) (.bool b3) (.slice A3 n3 c3) (.slice E3 k3 f3) F (zc d.o hb));clear t u hb E m d;go_wp2;go_roundg (n - k)
   case measure=>omega
   case rel=>exact⟨k+1,za,za,by go_num,I.o,H.o⟩
  ·have hk:k=n:=za;subst hk;have K:decide ((k:Int)<(k:Int))=false:=zG;have J:=zb (ke 0 ys k y.o▸a);have d:=zb hB;clear a hB;go_wp2;go_ret;exact⟨gp,rfl,F,J.o,d.o⟩
theorem TR (hT:zu w)(ha:z7 w A n c xs)(hx:zN K xs)(hn:n<=1073741824:=by omega)(hK:K+2<=67108864:=by omega):
  Calls prog 53 #[.slice A n c] w (kv w n xs):=by
 have B:=ha.len;have HG:zd (∀i,i<n->xs[i]?=some (xs.getD i 0)):=λi hi=>by
  rw [qQ,qY za];rfl
 have H:zd (∀i,i<n->zN K [xs.getD i 0]):=λi hi y hy=>by
  rw [List.mem_singleton.1 hy];exact hx.at_ za
 unfold kv;have v:=zb B;have HA:=zb ha;have HT:=zj w (λw' hb=>hT.on hb);obtain⟨Z,hZ⟩:=jo n za;have N:=λW=>(hZ W).1;have m:=zb (λW=>(hZ W).2);clear hT ha hx B hZ;have i0:(0:Int)<=(n:Int):=za;go_enter func53,ntmps53;go_wp2_with fail;clear N;have a:=m.o w;have hB:Below w.heap.size w (w.alloc (.cells Z 54)):=(qZ _ w).alloc (qX _) _;obtain⟨gp,z⟩:∃g,w.heap.size=g:=⟨_,rfl⟩;have C:w.heap.size<=gp:=za;rw [z] at a⊢;rw [<-lZ 0 xs n] at a;generalize w.alloc (.cells Z 54)=W1 at*;clear z m
 go_loopg [11] (n+1) (λg ix wr=>∃(k:Nat),k<=n/\n<g+k/\ix=.int .i64 k/\yn wr gp n (uJ 0 xs n k)/\Below w.heap.size w wr)
 case atStart=>exact⟨0,QQ _,za,rfl,a,hB⟩
 case round=>
  clear a hB;obtain⟨k,hkn,hg,rfl,a,hB⟩:=hrel;by_cases hlt:k<n
  ·obtain⟨ad,b1,B1,m1,d1,E1,u1,v1,rfl,-,I,J,L,hx⟩:=HA.o.get hB hlt;have M:decide ((k:Int)<(n:Int))=true:=decide_eq_true za;have i1:(0:Int)<=(k:Int):=za;have i2:(k:Int)<(n:Int):=za;obtain⟨s1,t1,t2,t3⟩:=z8 wr 54 54 #[.bool b1,.slice B1 m1 d1,.slice E1 u1 v1] #[.bool b1,.slice B1 m1 d1,.slice E1 u1 v1];have D:=(zw wr 54 #[.bool b1,.slice B1 m1 d1,.slice E1 u1 v1]).2.1;obtain⟨p0,p1,p2⟩:=D.c3;have u:=zb (oJ t2 (hx.below s1));have o:=zb (a.keep s1);have d:=zb (zc hB s1);clear hx a hB s1 t1 t2 t3 D;go_wp2_with fail;(with_reducible refine(kW (HT.o _ d.o) u.o (H.o k hlt) zf za).mono ?_);rintro e w3 ⟨b3,A3,n3,c3,E3,k3,f3,rfl,j,hb⟩;clear I J L p0 p1 p2;have j:zp w3 (xs.getD k 0) b3 A3 n3 c3 E3 k3 f3:=by
    have e:tL [xs.getD k 0]=xs.getD k 0:=by rw [Up,NT,xE]
    rw [e] at j;exact j
   have s:=o.o.keep hb;have t:=wH.set_ yt s hlt j;rw [kf 0 xs n k v.o hlt _ (HG.o k hlt)] at t;obtain⟨q0,q1,q2,sc0,sf0,sc1,sf1,sc2,sf2⟩:=s.ready hlt (.bool b3) (.slice A3 n3 c3);have F:=zb t;have E:=zb (dI (k*3) (k*3+1) (k*3+2) (.bool b3) (.slice A3 n3 c3) (.slice E3 k3 f3) C (zc d.o hb));clear s t hb j o d u;go_wp2;go_roundg (n - k)
   case measure=>omega
   case rel=>exact⟨k+1,za,za,by go_num,F.o,E.o⟩
  ·have hk:k=n:=za;subst hk;have M:decide ((k:Int)<(k:Int))=false:=zG;have G:=zb (ke 0 xs k v.o▸a);have d:=zb hB;clear a hB;go_wp2;go_ret;exact⟨gp,rfl,C,G.o,d.o⟩
structure fD (w:World)(A:ze)(n:Nat)(Ls:List (List Rat)):Prop where
 len:Ls.length=n
 num:∀i L,Ls[i]?=some L->∃(ad:Addr) (B:ze) (d:Nat),A=some ad/\ad.block<w.heap.size/\w.cell? (ad.add i)=some (.slice B L.length d)/\z7 w B L.length d L
theorem fD.below {Ls:List (List Rat)}(h:fD w A n Ls)(hb:Below w.heap.size w w'):fD w' A n Ls:=
 ⟨h.len,λi L hi=>by
  obtain⟨ad,B,d,e,h1,h2,h3⟩:=h.num i L hi;exact⟨ad,B,d,e,qJ h1 hb.size,zq hb h2,h3.keep hb⟩⟩
theorem vi {α:Type}{xs:List α}{d:α}(h:k<xs.length):xs[k]?=some (xs.getD k d):=by
 rw [qQ,qY h];rfl
section
variable {K L:Nat}{rs:List Rat}{Ls:List (List Rat)}{A B:ze}{n n' c d:Nat}{w:World}
end
theorem ZS {T:World->Prop}{M:Nat->Prop}(a:∀w,T w->zu w)(h0:M 0->kJ T)(h1:M 1->kK T)(h2:M 2->kL T):tu T M where
 g0:=h0
 g1:=h1
 g2:=h2
 new p q b b' A D n m c d w hT hA hD hn hm h0:=SR p q b A n c b' D m d w (a w hT) hA hD hn hm h0
 newNo p q b b' A D n m c d w hT hA hD hn hm h0:=Uh p q b A n c b' D m d w (a w hT) hA hD hn hm h0
 of p q w hT h1 h2 h3 h4 h0:=pY p q w (a w hT) h1 h2 h3 h4 h0
 ofNo p q w hT h1 h2 h0:=Ng p q w (a w hT) h1 h2 za za h0
 num r b A n c E k f w hT h hf:=SS r b A n c E k f w (a w hT) h hf
 den r b A n c E k f w hT h hf:=X2 r b A n c E k f w (a w hT) h hf
 sign r b A n c E k f w hT h hf:=Xp r b A n c E k f w (a w hT) h hf
 zero r b A n c E k f w hT h hf:=tG r b A n c E k f w (a w hT) h hf
 isInt r b A n c E k f w hT h hf:=oS r b A n c E k f w (a w hT) h hf
 bits r b A n c E k f w hT h hf:=pX r b A n c E k f w (a w hT) h hf
 neg r b A n c E k f w hT h hf:=Zx r b A n c E k f w (a w hT) h hf
 inv r b A n c E k f w hT h hf h0:=Zw r b A n c E k f w (a w hT) h hf h0
 invNo r b A n c E k f w hT h hf h0:=On r b A n c E k f w (a w hT) h hf h0
 add r s b b' A A' n n' c c' E E' k k' f f' w hT h h' hf hf':=Zv r s b A n c E k f b' A' n' c' E' k' f' w (a w hT) h h' hf hf'
 sub r s b b' A A' n n' c c' E E' k k' f f' w hT h h' hf hf':=ST r s b A n c E k f b' A' n' c' E' k' f' w (a w hT) h h' hf hf'
 cmp r s b b' A A' n n' c c' E E' k k' f f' w hT h h' hf hf':=SP r s b A n c E k f b' A' n' c' E' k' f' w (a w hT) h h' hf hf'
 same r s b b' A A' n n' c c' E E' k k' f f' w hT h h' hf hf':=Sa r s b A n c E k f b' A' n' c' E' k' f' w (a w hT) h h' hf hf'
theorem te (h:∀z ∈ zs,-9223372036854775808<=z/\z<=9223372036854775807):zN 1 (ws zs):=λx hx=>by
 obtain⟨z,hz,rfl⟩:=List.mem_map.1 hx;exact zm.whole (fe (h z hz).1 (h z hz).2) zf
theorem jm (zs:List Int)(n:Nat)(hn:zs.length=n){w:World}{g:Nat}{t:TypeId}(h:zh w g t (zs.map (Value.int .i64)).toArray)(hz:∀z ∈ zs,-9223372036854775808<=z/\z<=9223372036854775807):s8 w (some ⟨g,0,none⟩) n zs:=by
 subst hn;exact⟨rfl,λi hi=>by
  rw [qQ,qY hi];exact hz _ (xM hi),λi hi=>⟨_,rfl,by
  rw [wu,h.cell,qQ,qY hi];simp [hi]⟩⟩
theorem eQ:tu zu (λ_=>False):=ZS (λ_ h=>h) (λh=>h.elim) (λh=>h.elim) (λh=>h.elim)
