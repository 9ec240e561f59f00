/- What this claim leans on. -/
import Derived.Test.YtdfdjfiognhbgaaGreatDoorDJ8Add
import Derived.Test.YtdfdjfiognhbgaaGreatDoorDJ8Mul
set_option linter.unusedVariables false
set_option linter.unusedSimpArgs false
namespace Go.Proofs.YtdfdjfiognhbgaaGreatDoor
open Go Go.RowKit Go.Proofs.Tryz
set_option maxHeartbeats 16000000
set_option maxRecDepth 100000
variable {ad:Addr}{b:Bool}{p:Int}{xs:List Rat}{c f g k n:Nat}{t:TypeId}{v:Value}{w:World}{A E:ze}
structure fI (w:World)(A:ze)(n c:Nat)(rs:List Rat):Prop where
 len:rs.length=n
 fits:n<=c
 most:c<=9223372036854775807
 num:∀i,i<n->∃(ad:Addr) (b:Bool) (B:ze) (m d:Nat) (E:ze) (u v:Nat),A=some ad/\ad.block<w.heap.size/\w.cell? (ad.add (i*3))=some (.bool b)/\w.cell? (ad.add (i*3+1))=some (.slice B m d)/\w.cell? (ad.add (i*3+2))=some (.slice E u v)/\zo w (rs.getD i 0) b B m d E u v
theorem fI.below {w':World}{rs:List Rat}(h:fI w A n c rs)(hb:Below w.heap.size w w'):fI w' A n c rs:=
 ⟨h.len,h.fits,h.most,λi hi=>by
  obtain⟨ad,b,B,m,d,E,u,v,e,h1,h2,h3,h4,h5⟩:=h.num i hi;exact⟨ad,b,B,m,d,E,u,v,e,qJ h1 hb.size,zt hb h2,zt hb h3,zt hb h4,h5.below hb⟩⟩
def sy (rs:List Rat):Rat:=rs.foldl (λa b=>a+b) 0
theorem Pz (rs:List Rat)(r:Rat):sy (rs++[r])=sy rs+r:=by unfold sy;rw [yR];rfl
theorem PC (rs:List Rat)(k:Nat)(h:k<rs.length):sy (rs.take (k+1))=sy (rs.take k)+rs.getD k 0:=by
 rw [qE h,Pz,qQ,qX h];rfl
theorem R6 {r:Rat}{p:Bool}{q q2:ze}{r1 s r2 s2:Nat}(h:zo w r b A n c E k f)(kd:zh w g t #[.bool p,.slice q r1 s,.slice q2 r2 s2])(x y z:Value):
  zo (((w.setCell ⟨g,0,none⟩ x).setCell ⟨g,1,none⟩ y).setCell ⟨g,2,none⟩ z) r b A n c E k f:=iE h kd (yf.s3 _ _ _ _ _ _ _) (vw _ _ _ _ _)
theorem sU {g':Nat}{cs:Array Value}(h:zh w g t cs)(a:g≠g')(x y z:Value):zh (((w.setCell ⟨g',0,none⟩ x).setCell ⟨g',1,none⟩ y).setCell ⟨g',2,none⟩ z) g t cs:=((h.far (p:=⟨g',0,none⟩) a x).far (p:=⟨g',1,none⟩) a y).far (p:=⟨g',2,none⟩) a z
theorem o5 (h:w.cell? (ad.add (k+1))=some v):w.cell? ⟨(ad.add k).block,(ad.add k).off+1,none⟩=some v:=by
 rw [<-Go.Deep.add_add] at h;exact h
theorem o6 (h:w.cell? (ad.add (k+2))=some v):w.cell? ⟨(ad.add k).block,(ad.add k).off+2,none⟩=some v:=by
 rw [<-Go.Deep.add_add] at h;exact h
theorem ml (rs:List Rat)(A:ze)(n c K:Nat)(w:World)(hT:zu w)(h:fI w A n c rs)(hn:n<=1073741824)(hK:K<=67108864)(he:∀i,i<n->zm K (rs.getD i 0))(hs:∀k,k<=n->zm K (sy (rs.take k))):
  Calls prog 124 #[.slice A n c] w (xe w (sy rs)):=by
 have F:=zj w (λw' h=>hT.on h);have HN:=zj w (λw' hb=>h.below hb);have HS:=za hs;have HE:=za he;have E:=za (λk (hk:k<n)=>PC rs k (by rw [h.len];exact hk));have HF:zd (sy (rs.take n)=sy rs):=by
  show _=_;rw [qU (by rw [h.len];exact qY _)]
 clear h hs he hT;go_enter func124,ntmps124;go_wp2_with fail;obtain⟨hB,a,hp,b5⟩:=zX w 41 41 #[.bool false,.slice none 0 0,.slice none 0 0] #[.bool false,.slice none 0 0,.slice none 0 0];generalize hV:(w.alloc (.cells #[.bool false,.slice none 0 0,.slice none 0 0] 41)).alloc (.cells #[.bool false,.slice none 0 0,.slice none 0 0] 41)=V1 at*;clear hV b5;obtain⟨gp,C⟩:∃g,w.heap.size+1=g:=⟨_,rfl⟩;rw [C] at hp⊢;have hgw:w.heap.size<gp:=zb
 go_loopg [9] (n+1) (λg ix wr=>∃(k:Nat) (b:Bool) (Ap:ze) (np cp:Nat) (Ep:ze) (kp fp:Nat),k<=n/\n<g+k/\ix=.int .i64 k/\zo wr (sy (rs.take k)) b Ap np cp Ep kp fp/\zh wr gp 41 #[.bool b,.slice Ap np cp,.slice Ep kp fp]/\Below w.heap.size w wr/\zh wr w.heap.size 41 #[.bool false,.slice none 0 0,.slice none 0 0])
 case atStart=>exact⟨0,false,none,0,0,none,0,0,qN _,zb,rfl,cR _,hp,hB,a⟩
 case round=>
  clear hp hB a C;obtain⟨k,b,Ap,np,cp,Ep,kp,fp,o,hg,rfl,hw,hp,hB,a⟩:=hrel;by_cases hlt:k<n
  ·obtain⟨ad,b1,B1,m1,d1,E1,u1,v1,rfl,hadb,H,j,m,hx⟩:=(HN.o _ hB).num k hlt;have HM:=zj wr (λw' hb=>dD (sy (rs.take k)) (rs.getD k 0) b Ap np cp Ep kp fp b1 B1 m1 d1 E1 u1 v1 w' (F.o _ (zc hB hb)) (hw.below hb) (hx.below hb) (zm.fit (HS.o k o) hw hK) (zm.fit (HE.o k hlt) hx hK));have j:=o5 j;have m:=o6 m;have i1:(0:Int)<=(k:Int):=zb;have i2:(k:Int)<(n:Int):=zb;obtain⟨p0,p1,p2⟩:=hp.c3;obtain⟨st,d2,d3⟩:=zw wr 41 #[.bool b1,.slice B1 m1 d1,.slice E1 u1 v1];obtain⟨q0,q1,q2⟩:=d2.c3;have p3:=zt st p0;have p4:=zt st p1;have p5:=zt st p2;have y:=za (HM.o _ st);have t:=za (zc hB st);have z:=za (zf st hp);have u:=za (zf st a);clear hw hx hB hp a HM st d2 d3;go_wp2_with fail;refine y.o.mono ?_;rintro e w3 ⟨b3,A3,n3,c3,E3,k3,f3,rfl,s,hb⟩;rw [<-E.o k hlt] at s;have B:=zc t.o hb;have d:=zf hb z.o;have D:=zf hb u.o;obtain⟨M,P,N,Q,O,R⟩:=yh d (.bool b3) (.slice A3 n3 c3);have L:=R6 s d (.bool b3) (.slice A3 n3 c3) (.slice E3 k3 f3);have G:=uI (.bool b3) (.slice A3 n3 c3) (.slice E3 k3 f3) (by show w.heap.size<=gp;omega) B;have J:=yg d (.bool b3) (.slice A3 n3 c3) (.slice E3 k3 f3);have I:=sU D (by show w.heap.size≠gp;omega) (.bool b3) (.slice A3 n3 c3) (.slice E3 k3 f3);clear hb B d D s y t z u H j m p0 p1 p2 p3 p4 p5 q0 q1 q2;go_wp2;go_roundg (n - k)
   case measure=>omega
   case rel=>exact⟨k+1,b3,A3,n3,c3,E3,k3,f3,zb,zb,by go_num,L,J,G,I⟩
  ·have o:k=n:=zb;subst o;rw [HF.o] at hw;obtain⟨p0,p1,p2⟩:=hp.c3;obtain⟨M,P,N,Q,O,R⟩:=yh a (.bool b) (.slice Ap np cp);obtain⟨r0,r1,r2⟩:=(yg a (.bool b) (.slice Ap np cp) (.slice Ep kp fp)).c3;have HG:=za (wZ hw a hB (qY _));clear hw hp a hB;go_wp2;refine bodyPost_ret (v:=.agg #[.bool b,.slice Ap np cp,.slice Ep kp fp]) (by simp [results,results124,go_sem,r0,r1,r2]) rfl ?_;exact HG.o
theorem pW (p:Int)(w:World)(hT:zu w)(d: -9223372036854775808<=p)(g:p<=9223372036854775807):
  Calls prog 66 #[.int .i64 p] w (xe w (p:Rat)):=by
 have j:=za (wO (T:=zu));have HT:=zj w (λw' hb=>hT.on hb);have HTB:=HT;obtain⟨K,m⟩:∃K,67108864=K:=⟨_,rfl⟩;have hKK:K<=67108864:=zb;have hK0:0<K:=zb;clear hT m;go_enter func66,ntmps66;have hB:=qZ w.heap.size w;obtain⟨a,c,bz⟩:=zw w 41 #[.bool false,.slice none 0 0,.slice none 0 0];have hB:=zc hB a;have k1:=c;clear a c bz;go_wp2_with fail;generalize w.alloc (.cells #[.bool false,.slice none 0 0,.slice none 0 0] 41)=W1 at*;have HZ2:zd (Sz (1) (p).natAbs):=(by show Int.natAbs p<18446744073709551616^1;have e1: -9223372036854775808<=p:=d;have e2:p<=9223372036854775807:=g;omega);(with_reducible refine(j.o.of p _ (HT.o _ hB) d g).mono ?_);rintro e wc2 ⟨b2,B2,m2,d2,rfl,i,hb⟩;have hB:=zc hB hb;have k1:=zf hb k1;have k:=za i;clear hb i;obtain⟨sc0,sf0,sc1,sf1,sc2,sf2⟩:=yh k1 (.bool b2) (.slice B2 m2 d2);obtain⟨r0,r1,r2⟩:=(yg k1 (.bool b2) (.slice B2 m2 d2) (.slice none 0 0)).c3;have HG:=za (wZ (eM k.o) k1 hB zb);go_wp2;refine bodyPost_ret (v:=.agg #[.bool b2,.slice B2 m2 d2,.slice none 0 0]) (by simp [results,results66,go_sem,r0,r1,r2]) rfl ?_;exact HG.o
theorem Pm (z:Int)(d:Bool)(c:ze)(a g:Nat)(w:World)(hT:zu w)(k:zZ w z d c a g)(y:a<=67108864):
  Calls prog 131 #[.agg #[.bool d,.slice c a g]] w (xe w (z:Rat)):=by
 have HT:=zj w (λw' hb=>hT.on hb);have HTB:=HT;obtain⟨K,u⟩:∃K,67108864=K:=⟨_,rfl⟩;have hKK:K<=67108864:=zb;have hK0:0<K:=zb;have i:=zj w (λw' b=>k.below b);have j:zd (Sz K z.natAbs):=Sz.of_words k.words zb;clear k y;clear hT u;go_enter func131,ntmps131;have hB:=qZ w.heap.size w;obtain⟨m,n,o,bz⟩:=zX w 39 41 #[.bool d,.slice c a g] #[.bool false,.slice none 0 0,.slice none 0 0];have hB:=zc hB m;obtain⟨g1,e1⟩:=n.c2;have k2:=o;clear m n o bz;go_wp2_with fail;generalize (w.alloc (.cells #[.bool d,.slice c a g] 39)).alloc (.cells #[.bool false,.slice none 0 0,.slice none 0 0] 41)=W1 at*;have HZ3:zd (Sz (K) (z).natAbs):=j.o;(with_reducible refine(bB (z) d c a g _ (HT.o _ hB) (i.o _ hB) (yx j (i.o _ hB))).mono ?_);rintro e wc2 ⟨b3,B3,m3,d3,rfl,s,hb⟩;have hB:=zc hB hb;obtain⟨g1,e1⟩:=xc hb g1 e1;have k2:=zf hb k2;have t:=za s;clear hb s;obtain⟨sc0,sf0,sc1,sf1,sc2,sf2⟩:=yh k2 (.bool b3) (.slice B3 m3 d3);obtain⟨r0,r1,r2⟩:=(yg k2 (.bool b3) (.slice B3 m3 d3) (.slice none 0 0)).c3;have HG:=za (wZ (eM t.o) k2 hB zb);go_wp2;refine bodyPost_ret (v:=.agg #[.bool b3,.slice B3 m3 d3,.slice none 0 0]) (by simp [results,results131,go_sem,r0,r1,r2]) rfl ?_;exact HG.o
section
variable {K K':Nat}{x y:Rat}{b b':Bool}{A A':ze}{n n' c c':Nat}{E E':ze}{k k' f f':Nat}{w:World}
theorem gH (hT:zu w)(h:zo w x b A n c E k f)(h':zo w y b' A' n' c' E' k' f')(z:zm K x)(z':zm K' y)(hK:K<=67108864:=by omega)(a:K'<=67108864:=by omega):
  Calls prog 156 #[.agg #[.bool b,.slice A n c,.slice E k f],.agg #[.bool b',.slice A' n' c',.slice E' k' f']] w (xe w (x+y)):=dD x y b A n c E k f b' A' n' c' E' k' f' w hT h h' (z.fit h hK) (z'.fit h' a)
theorem ia (hT:zu w)(h:zo w x b A n c E k f)(h':zo w y b' A' n' c' E' k' f')(z:zm K x)(z':zm K' y)(hK:K<=67108864:=by omega)(a:K'<=67108864:=by omega):
  Calls prog 82 #[.agg #[.bool b,.slice A n c,.slice E k f],.agg #[.bool b',.slice A' n' c',.slice E' k' f']] w (xe w (x*y)):=U0 x y b A n c E k f b' A' n' c' E' k' f' w hT h h' (z.fit h hK) (z'.fit h' a)
theorem gI (hT:zu w)(h:zo w x b A n c E k f)(h':zo w y b' A' n' c' E' k' f')(z:zm K x)(z':zm K' y)(hK:K<=67108864:=by omega)(a:K'<=67108864:=by omega):
  Calls prog 127 #[.agg #[.bool b,.slice A n c,.slice E k f],.agg #[.bool b',.slice A' n' c',.slice E' k' f']] w (wC w (uW x y)):=UY x y b A n c E k f b' A' n' c' E' k' f' w hT h h' (z.fit h hK) (z'.fit h' a)
theorem qt {t:Bool}(e:decide (x=y)=t)(hT:zu w)(h:zo w x b A n c E k f)(h':zo w y b' A' n' c' E' k' f')(z:zm K x)(z':zm K' y)(hK:K<=67108864:=by omega)(a:K'<=67108864:=by omega):
  Calls prog 75 #[.agg #[.bool b,.slice A n c,.slice E k f],.agg #[.bool b',.slice A' n' c',.slice E' k' f']] w (λe w'=>e=.returned (.bool t)/\Below w.heap.size w w'):=xo e (Ut x y b A n c E k f b' A' n' c' E' k' f' w hT h h' (z.fit h hK) (z'.fit h' a))
theorem qu {t:Bool}(e:decide (x=0)=t)(hT:zu w)(h:zo w x b A n c E k f)(z:zm K x)(hK:K<=67108864:=by omega):
  Calls prog 10 #[.agg #[.bool b,.slice A n c,.slice E k f]] w (λe w'=>e=.returned (.bool t)/\Below w.heap.size w w'):=xo e (uQ x b A n c E k f w hT h (z.fit h hK))
end
theorem nv:∀(args:Array Value) (w':World),Sem.run prog (callFunc 172 args) w'=.ok (.enter 172 args) w':=Go.Proofs.enters_of func172 zP rfl
theorem zU.rats (h:zU w A n c xs):fI w A n c xs:=⟨h.len,h.fits,h.most,λi hi=>h.at_ hi 0⟩
theorem pE (rs:List Rat):sy rs=uA rs:=rfl
theorem lK {K:Nat}(hT:zu w)(h:zU w A n c xs)(hx:zK K xs)(hn:n<=1073741824)(hK:1+n*(K+1)<=67108864):
  Calls prog 124 #[.slice A n c] w (xe w (uA xs)):=by
 have hl:=h.len;have e:=pE xs;rw [<-e];refine ml xs A n c (1+n*(K+1)) w hT h.rats hn hK (λi hi=>(hx.at_ zb).up ?_) (λk hk=>?_)
 ·have:K+1<=n*(K+1):=Nat.le_mul_of_pos_left _ zb;omega
 ·rw [pE];exact mK hx hl k hk
theorem Ua {x:Rat}(h:zh w g t #[.bool b,.slice A n c,.slice E k f])(hx:zo w x b A n c E k f):zU w (some ⟨g,0,none⟩) 1 1 [x]:=
 ⟨rfl,qY _,zg,λi y hi=>by
  have h0:i=0:=by
   have:=(List.getElem?_eq_some_iff.1 hi).1;simpa using this
  subst h0;obtain rfl:x=y:=by simpa using hi
  exact⟨_,b,A,n,c,E,k,f,rfl,h.lt,by rw [vz];exact h.cell 0,by rw [vz];exact h.cell 1,by rw [vz];exact h.cell 2,hx⟩⟩
theorem St (hT:zu w)(hp:xz p):
  Calls prog 78 #[.agg #[.int .i64 p,.int .i64 0]] w (xe w (uL p 0)):=by
 rw [Us];obtain⟨j,k⟩:=hp;have HT:=zj w (λw' hb=>hT.on hb);obtain⟨c,d,g,bz⟩:=zX w 124 41 #[.int .i64 p,.int .i64 0] #[.bool false,.slice none 0 0,.slice none 0 0];obtain⟨g0,g1⟩:=d.c2;have HB:=za c;have HK:=za g;clear hT c d g bz;go_enter func78,ntmps78;go_wp2_with fail;clear g0 g1;(with_reducible refine(pW p _ (HT.o _ HB.o) j k).mono ?_);rintro e w2 ⟨b2,A2,n2,c2,E2,k2,f2,rfl,i,hb⟩;have a:=zf hb HK.o;obtain⟨sc0,sf0,sc1,sf1,sc2,sf2⟩:=yh a (.bool b2) (.slice A2 n2 c2);obtain⟨r0,r1,r2⟩:=(yg a (.bool b2) (.slice A2 n2 c2) (.slice E2 k2 f2)).c3;have HG:=za (wZ i a (zc HB.o hb) zb);clear hb a i HB HK;go_wp2;refine bodyPost_ret (v:=.agg #[.bool b2,.slice A2 n2 c2,.slice E2 k2 f2]) (by simp [results,results78,go_sem,r0,r1,r2]) rfl ?_;exact HG.o
theorem Su {q:Int}(hT:zu w)(hp:xz p)(hq:xz q)(h0:q≠0):
  Calls prog 78 #[.agg #[.int .i64 p,.int .i64 q]] w (xe w (uL p q)):=by
 rw [qr h0];obtain⟨k,m⟩:=hp;obtain⟨n,o⟩:=hq;have H0:=za h0;have hd0:(q==0)=false:=by rw [beq_eq_false_iff_ne];exact h0
 have HT:=zj w (λw' hb=>hT.on hb);obtain⟨c,d,g,bz⟩:=zX w 124 41 #[.int .i64 p,.int .i64 q] #[.bool false,.slice none 0 0,.slice none 0 0];obtain⟨g0,g1⟩:=d.c2;have HB:=za c;have HK:=za g;clear hT c d g bz h0;go_enter func78,ntmps78;go_wp2_with fail;clear g0 g1;(with_reducible refine(qz p q _ (HT.o _ HB.o) k m n o H0.o).mono ?_);rintro e w2 ⟨b2,A2,n2,c2,E2,k2,f2,rfl,i,hb⟩;obtain⟨s1,s2,s3⟩:=zw w2 41 #[.bool b2,.slice A2 n2 c2,.slice E2 k2 f2];obtain⟨p0,p1,p2⟩:=s2.c3;have a:=zf s1 (zf hb HK.o);have j:=i.below s1;obtain⟨sc0,sf0,sc1,sf1,sc2,sf2⟩:=yh a (.bool b2) (.slice A2 n2 c2);obtain⟨r0,r1,r2⟩:=(yg a (.bool b2) (.slice A2 n2 c2) (.slice E2 k2 f2)).c3;have HG:=za (wZ j a (zc (zc HB.o hb) s1) zb);clear hb a i j HB HK s1 s2 s3;go_wp2;refine bodyPost_ret (v:=.agg #[.bool b2,.slice A2 n2 c2,.slice E2 k2 f2]) (by simp [results,results78,go_sem,r0,r1,r2]) rfl ?_;exact HG.o
theorem PQ {q:Int}(hT:zu w)(hp:xz p)(hq:xz q):
  Calls prog 78 #[.agg #[.int .i64 p,.int .i64 q]] w (xe w (uL p q)):=by
 by_cases h0:q=0
 ·subst h0;exact St hT hp
 ·exact Su hT hp hq h0
def xx (L:List (Int×Int)):List Rat:=L.map λq=>uL q.1 q.2
theorem mV (L:List (Int×Int)):(xx L).length=L.length:=xV _
def sE (w:World)(n:Nat)(xs:List Rat)(e:Ending)(w':World):Prop:=∃(A:ze) (c:Nat),e=.returned (.slice A n c)/\zU w' A n c xs/\(∀ad,A=some ad->w.heap.size<=ad.block)/\Below w.heap.size w w'
theorem Re {L:List (Int×Int)}(hT:zu w)(h:vB w A n c L):
  Calls prog 30 #[.slice A n c] w (sE w n (xx L)):=by
 obtain⟨ai,ah,S,T,U⟩:=info_parts ZL;have hn0:n<=1048576:=qL h.fits h.small;have HL:=za h.len;have HG:zd (∀k,k<n->xz (L.getD k (0,0)).1/\xz (L.getD k (0,0)).2/\∃ad,A=some ad/\ad.block<w.heap.size/\w.cell? (ad.add (k*2))=some (.int .i64 (L.getD k (0,0)).1)/\w.cell? (ad.add (k*2+1))=some (.int .i64 (L.getD k (0,0)).2)):=λk hk=>by
  have hl:=h.len;have e:L[k]?=some (L.getD k (0,0)):=by rw [qQ,qX zb];rfl
  obtain⟨h1,h2⟩:=h.ints _ (QJ e);exact⟨h1,h2,h.row k _ e⟩
 have HS:zd (∀k,k<n->xx (L.take (k+1))=xx (L.take k)++[uL (L.getD k (0,0)).1 (L.getD k (0,0)).2]):=λk hk=>by
  have hl:=h.len;unfold xx;rw [qE zb,YX,qQ,qX zb];rfl
 have HT:=zj w (λw' hb=>hT.on hb);unfold sE;clear h hT;have hB:=qZ w.heap.size w;go_enter func30,ntmps30;go_wp2_with fail
 go_loopg [3,4] (n+1) (λg sl ix wr=>∃(k:Nat) (v:Value) (vs:List Value),k<=n/\n<g+k/\ix=.int .i64 k/\v=sl/\wH zo wr w.heap.size 41 v (xx (L.take k)) vs/\Below w.heap.size w wr)
 case atStart=>exact⟨0,_,_,qN _,zb,rfl,rfl,wH.nil _ _ _,hB⟩
 case round=>
  clear hB;obtain⟨k,v,vs,hkn,hg,rfl,rfl,a,hB⟩:=hrel;by_cases hlt:k<n
  ·obtain⟨i,m,ad,rfl,hadb,o,s⟩:=HG.o k hlt;have H:=za (HS.o k hlt);obtain⟨q,hq⟩:∃q,L.getD k (0,0)=q:=⟨_,rfl⟩;rw [hq] at i m o s H;obtain⟨q1,q2⟩:=q;dsimp only at i m o s H;have o:=zt hB o;have s:=fE (zt hB s);have ag:decide ((k:Int)<(n:Int))=true:=decide_eq_true zb;have i1:(0:Int)<=(k:Int):=zb;have i2:(k:Int)<(n:Int):=zb;have O:=za a;have J:=za hB;have Y:=za i;have Z:=za m;have B:(xx (L.take k)).length=k:=by rw [mV,qB,HL.o];omega
   have M:=za B;clear a hB i m hq B;go_wp2_with fail;(with_reducible refine(PQ (HT.o _ J.o) Y.o Z.o).mono ?_);rintro e w5 ⟨b5,B5,m5,d5,E5,u5,f5,rfl,R,hb⟩;obtain⟨t1,t2,_⟩:=zw w5 41 #[.bool b5,.slice B5 m5 d5,.slice E5 u5 f5];obtain⟨aj,ak,al⟩:=t2.c3;have I:=zc hb t1;have a:=wH.below zS O.o I;have HX:=za (R.below t1);have HB:=za (zc J.o I);have t:∀j u,[Value.bool b5,.slice B5 m5 d5,.slice E5 u5 f5][j]?=some u->(w5.alloc (.cells #[.bool b5,.slice B5 m5 d5,.slice E5 u5 f5] 41)).cell? ((⟨w5.heap.size,0,none⟩:Addr).add j)=some u:=λj u hu=>by
    rw [vz]
    match j,hu with
    |0,hu=>simp at hu;subst hu;exact t2.cell 0
    |1,hu=>simp at hu;subst hu;exact t2.cell 1
    |2,hu=>simp at hu;subst hu;exact t2.cell 2
   have G:=za t;have P:zd (∀u ∈ [Value.bool b5,.slice B5 m5 d5,.slice E5 u5 f5],u.oneCell'=true):=by intro u hu;simp at hu;rcases hu with rfl|rfl|rfl<;>rfl
   have aa:zd (∀u ∈ [Value.bool b5,.slice B5 m5 d5,.slice E5 u5 f5],tR u):=by intro u hu y z;simp at hu;rcases hu with rfl|rfl|rfl<;>(intro h9;cases h9)
   have ae:zd (∀u ∈(Value.agg #[.bool false,.slice none 0 0,.slice none 0 0]).cells.toList,tR u):=by intro u hu y z;simp [Value.cells] at hu;rcases hu with rfl|rfl<;>(intro h9;cases h9)
   have K:zd (w.heap.size<=(w5.alloc (.cells #[.bool b5,.slice B5 m5 d5,.slice E5 u5 f5] 41)).heap.size):=HB.o.size;have D:=a.own;rw [M.o] at D;have Q:=za D;have N:=za a.nou;have ac:=za a;have ab:=za (λr (h:v.ownBlock=some r)=>a.own.lt r h);clear hb I R t a t1 t2 o s aj ak al D;go_wp2_with (at_builtin;go_loud (refine Z6 _ rfl (.tmp 11) (.tmp 17) 64 rfl w.heap.size 41 ai (.agg #[.bool false,.slice none 0 0,.slice none 0 0]) 3 56 underlying64 ah S T U rfl zg v k vs rfl Q.o ⟨w5.heap.size,0,none⟩ 1 1 [.bool b5,.slice B5 m5 d5,.slice E5 u5 f5] rfl rfl G.o P.o (by unfold maxLen;omega) zb K.o N.o ae.o aa.o ?_;intro v' w8 E d af C;have F:=za (wH.grow (n:=k+1) zS ac.o HX.o E (by rw [M.o]) d C);have X:=za (HB.o.grown d K.o (λr hr=>(ab.o r hr).1));clear E d af C));rw [<-H.o] at F;go_roundg (n - k)
   case measure=>omega
   case rel=>exact⟨k+1,_,_,zb,zb,by go_num,rfl,F.o,X.o⟩
  ·have ag:decide ((k:Int)<(n:Int))=false:=decide_eq_false zb;have hk:k=n:=zb;subst hk;rw [qU (by rw [HL.o];exact qY _)] at a;have B:(xx L).length=k:=by rw [mV];exact HL.o
   obtain⟨A1,c1,rfl,hv,hf⟩:=a.shape;rw [B] at hv⊢;have HV:=za hv;have HF:=za hf;have V:=za hB;clear a hv hB B hf;go_wp2;go_ret;exact⟨A1,c1,rfl,HV.o,HF.o,V.o⟩
theorem nK {T:World->Prop}{M:Nat->Prop}(I:∀w w',T w->Below w.heap.size w w'->T w')(IC:wQ T)(QC:uG T M)(p q:Int)(r:Rat)(K:Nat)(bx:Bool)(Bx:ze)(mx dx:Nat)(Ex:ze)(ux vx:Nat)(w:World)(hK:K<=16777216)(hz:zm K r)(h:zo w r bx Bx mx dx Ex ux vx)(hT:T w)(v: -9223372036854775808<=p)(z:p<=9223372036854775807)(A: -9223372036854775808<=q)(B:q<=9223372036854775807)(J:q≠0)(he:r=Rat.divInt p q):
  Calls prog 28 #[.agg #[.bool bx,.slice Bx mx dx,.slice Ex ux vx],.int .i64 p,.int .i64 q] w λe w'=>e=.returned (.bool true)/\Below w.heap.size w w':=by
 have D:=za IC;have n:=za QC;have HT:=zj w (λw' hb=>I w w' hT hb);have HE:=za he;have s:=za hz;have g:=za h;clear IC QC hT he hz h;go_enter func28,ntmps28;have hB:=qZ w.heap.size w;obtain⟨i,t,bz⟩:=zw w 41 #[.bool bx,.slice Bx mx dx,.slice Ex ux vx];have hB:=zc hB i;have g:=za (g.o.below i);obtain⟨g1,e1,i1⟩:=t.c3;clear i t bz;go_wp2_with fail;generalize w.alloc (.cells #[.bool bx,.slice Bx mx dx,.slice Ex ux vx] 41)=W1 at*;have o:zd (zm (1) (Rat.divInt p q)):=zm.made (K:=1) (by show Int.natAbs p<18446744073709551616^1;have e1: -9223372036854775808<=p:=v;have e2:p<=9223372036854775807:=z;omega) (by show Int.natAbs q<18446744073709551616^1;have e1: -9223372036854775808<=q:=A;have e2:q<=9223372036854775807:=B;omega) zg;(with_reducible refine(n.o.of p q _ (HT.o _ hB) v z A B J).mono ?_);rintro e u ⟨b2,B2,m2,d2,E2,u2,v2,rfl,C,hb⟩;have hB:=zc hB hb;have g:=za (g.o.below hb);obtain⟨g1,e1,i1⟩:=yd hb g1 e1 i1;have k:=za C;clear hb C;obtain⟨i,t,bz⟩:=zw u 41 #[.bool b2,.slice B2 m2 d2,.slice E2 u2 v2];have hB:=zc hB i;have g:=za (g.o.below i);obtain⟨g1,e1,i1⟩:=yd i g1 e1 i1;have k:=za (k.o.below i);obtain⟨g3,e3,i3⟩:=t.c3;clear i t bz;go_wp2_with fail;generalize u.alloc (.cells #[.bool b2,.slice B2 m2 d2,.slice E2 u2 v2] 41)=W3 at*;generalize u.heap.size=q3 at*;have C0:=zj W3 (λw' h=>xo (decide_eq_true HE.o) (n.o.same (r) (Rat.divInt p q) bx b2 Bx B2 mx m2 dx d2 Ex E2 ux u2 vx v2 w' (HT.o _ (zc hB h)) (g.o.below h) (k.o.below h) (szq s g.o) (szq o k.o)));have E:zd (Sz (K) (r.num).natAbs):=zm.num s.o;have C1:=zj W3 (λw' h=>n.o.num (r) bx Bx mx dx Ex ux vx w' (HT.o _ (zc hB h)) (g.o.below h) (szq s g.o));have F:zd (Sz (1) ((Rat.divInt p q).num).natAbs):=zm.num o.o;have C2:=zj W3 (λw' h=>n.o.num (Rat.divInt p q) b2 B2 m2 d2 E2 u2 v2 w' (HT.o _ (zc hB h)) (k.o.below h) (szq o k.o));have C3:=zj W3 (λw' h b4 B4 m4 d4 (c:zZ w' (r.num) b4 B4 m4 d4) b5 B5 m5 d5 (d:zZ w' ((Rat.divInt p q).num) b5 B5 m5 d5)=>nA (by rw [HE.o]) (D.o.cmp (r.num) ((Rat.divInt p q).num) b4 b5 B4 B5 m4 m5 d4 d5 w' (HT.o _ (zc hB h)) c d (by have:=Sz.words E.o c.words;omega) (by have:=Sz.words F.o d.words;omega)));have G:zd (Sz (K) (r.den)):=zm.den s.o;have C4:=zj W3 (λw' h=>n.o.den (r) bx Bx mx dx Ex ux vx w' (HT.o _ (zc hB h)) (g.o.below h) (szq s g.o));have H:zd (Sz (1) ((Rat.divInt p q).den)):=zm.den o.o;have C5:=zj W3 (λw' h=>n.o.den (Rat.divInt p q) b2 B2 m2 d2 E2 u2 v2 w' (HT.o _ (zc hB h)) (k.o.below h) (szq o k.o));have C6:=zj W3 (λw' h B6 m6 d6 (j:zn w' (r.den) B6 m6 d6) B7 m7 d7 (m:zn w' ((Rat.divInt p q).den) B7 m7 d7)=>gh (x:=r.den) (y:=(Rat.divInt p q).den) (by rw [HE.o]) j m (yo G j) (yo H m));have a:=(qZ W3.heap.size W3).drew;refine rg (zl g1 (zl e1 (zl i1 (zl g3 (zl e3 (zl i3 zJ)))))) (λhHeld=>?_);refine tk 0 ?_;refine tk 1 ?_;refine tk 2 ?_;refine tk 3 ?_;refine rc 4 (λK hK=>?_);go_simp;go_at_call 75;(with_reducible refine(C0.o _ a).mono ?_);rintro e wa4 ⟨rfl,hb⟩;have a:=zc a hb;refine hK.out _ _ (Cs.below hHeld hb) (λhHeld=>?_);clear hK K hb
 try simp only [zG]
 refine tk 5 ?_;refine tk 6 ?_;refine tk 7 ?_;refine tk 9 ?_;refine rc 8 (λK hK=>?_);go_simp;go_at_call 46;(with_reducible refine(C1.o _ a).mono ?_);rintro e wa5 ⟨b4,B4,m4,d4,rfl,c,hb⟩;have a:=zc a hb;refine hK.out _ _ (Cs.below hHeld hb) (λhHeld=>?_);clear hK K hb
 try simp only [zG]
 refine rc 10 (λK hK=>?_);go_simp;go_at_call 46;(with_reducible refine(C2.o _ a).mono ?_);rintro e wa6 ⟨b5,B5,m5,d5,rfl,d,hb⟩;have a:=zc a hb;have c:=c.below hb;refine hK.out _ _ (Cs.below hHeld hb) (λhHeld=>?_);clear hK K hb
 try simp only [zG]
 refine rc 11 (λK hK=>?_);go_simp;go_at_call 76;(with_reducible refine(C3.o _ a _ _ _ _ c _ _ _ _ d).mono ?_);rintro e wa7 ⟨rfl,hb⟩;have a:=zc a hb;have c:=c.below hb;have d:=d.below hb;refine hK.out _ _ (Cs.below hHeld hb) (λhHeld=>?_);clear hK K hb
 try simp only [zG]
 refine tk 12 ?_;refine tk 13 ?_;refine tk 14 ?_;refine tk 15 ?_;refine tk 17 ?_;refine rc 16 (λK hK=>?_);go_simp;go_at_call 48;(with_reducible refine(C4.o _ a).mono ?_);rintro e wa8 ⟨B6,m6,d6,rfl,j,hb⟩;have a:=zc a hb;have c:=c.below hb;have d:=d.below hb;refine hK.out _ _ (Cs.below hHeld hb) (λhHeld=>?_);clear hK K hb
 try simp only [zG]
 refine rc 18 (λK hK=>?_);go_simp;go_at_call 48;(with_reducible refine(C5.o _ a).mono ?_);rintro e wa9 ⟨B7,m7,d7,rfl,m,hb⟩;have a:=zc a hb;have c:=c.below hb;have d:=d.below hb;have j:=j.below hb;refine hK.out _ _ (Cs.below hHeld hb) (λhHeld=>?_);clear hK K hb
 try simp only [zG]
 refine rc 19 (λK hK=>?_);go_simp;go_at_call 77;(with_reducible refine(C6.o _ a _ _ _ j _ _ _ m).mono ?_);rintro e wa10 ⟨rfl,hb⟩;have a:=zc a hb;have c:=c.below hb;have d:=d.below hb;have j:=j.below hb;have m:=m.below hb;refine hK.out _ _ (Cs.below hHeld hb) (λhHeld=>?_);clear hK K hb
 try simp only [zG]
 refine tk 20 ?_;refine tk 21 ?_;refine tk 22 ?_;refine zT ?_;have hB:=zc hB a;obtain⟨g1,e1,i1,g3,e3,i3⟩:=zO a g1 e1 i1 g3 e3 i3;clear a hHeld c d j m C0 C1 C2 C3 C4 C5 C6;go_wp2;go_ret;exact⟨by first|rfl|simp,hB⟩
