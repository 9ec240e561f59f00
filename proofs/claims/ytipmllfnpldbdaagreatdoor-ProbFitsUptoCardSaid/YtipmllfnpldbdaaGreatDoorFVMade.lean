/- What this claim leans on. -/
import Derived.Test.YtipmllfnpldbdaaGreatDoorFJ8Etc
set_option linter.unusedVariables false
set_option linter.unusedSimpArgs false
namespace Go.Proofs.YtipmllfnpldbdaaGreatDoor
open Go Go.RowKit Go.Proofs.Tryz
set_option maxHeartbeats 16000000
set_option maxRecDepth 100000
variable {p:Int}{L:List (Int×Int)}{c n:Nat}{w:World}{A:zf}
structure nU (w:World)(A:zf)(n:Nat)(zs:List Int):Prop where
 len:zs.length=n
 ints:∀i,i<n-> -9223372036854775808<=zs.getD i 0/\zs.getD i 0<=9223372036854775807
 num:∀i,i<n->∃ad:Addr,A=some ad/\w.cell? (ad.add i)=some (.int .i64 (zs.getD i 0))
def yw (zs:List Int):List Rat:=zs.map λz:Int=>(z:Rat)
theorem pR {zs:List Int}(hT:zu w)(ha:nU w A n zs)(hn:n<=1073741824:=by omega):
  Calls prog 43 #[.slice A n c] w (nQ w n (yw zs)):=by
 have D:=ha.len;have t:(yw zs).length=n:=by unfold yw;rw [YZ];exact D
 have m:∀i,i<n->(yw zs)[i]?=some ((zs.getD i 0:Int):Rat):=λi hi=>by
  unfold yw;rw [QM,qQ,qZ za];rfl
 have HI:=zd ha.ints;unfold nQ;obtain⟨ys,G⟩:∃ys,yw zs=ys:=⟨_,rfl⟩;rw [G] at m t⊢;have HG:=zd m;have y:=zd t;have HA:=zd ha.num;have HT:=zm w (λw' hb=>hT.on hb);obtain⟨Z,hZ⟩:=ov n za;have L:=λW=>(hZ W).1;have h:=zd (λW=>(hZ W).2);clear hT ha D t G m hZ;have i0:(0:Int)<=(n:Int):=za;go_enter func43,ntmps43;go_wp2_with fail;clear L;have a:=h.o w;have hB:Below w.heap.size w (w.alloc (.cells Z 60)):=(qY _ w).alloc (qX _) _;obtain⟨gp,C⟩:∃g,w.heap.size=g:=⟨_,rfl⟩;have F:w.heap.size<=gp:=za;rw [C] at a⊢;rw [<-pK 0 ys n] at a;generalize w.alloc (.cells Z 60)=W1 at*;clear C h
 go_loopg [11] (n+1) (λg ix wr=>∃(k:Nat),k<=n/\n<g+k/\ix=.int .i64 k/\yk wr gp n (wF 0 ys n k)/\Below w.heap.size w wr)
 case atStart=>exact⟨0,QE _,za,rfl,a,hB⟩
 case round=>
  clear a hB;obtain⟨k,hkn,hg,rfl,a,hB⟩:=hrel;by_cases hlt:k<n
  ·obtain⟨ad,rfl,hc⟩:=HA.o k hlt;have B:=zq hB hc;obtain⟨z1,z2⟩:=HI.o k hlt;have x:=zd (HG.o k hlt);obtain⟨z,hz⟩:∃z,zs.getD k 0=z:=⟨_,rfl⟩;rw [hz] at B z1 z2 x;have K:decide ((k:Int)<(n:Int))=true:=decide_eq_true za;have i1:(0:Int)<=(k:Int):=za;have i2:(k:Int)<(n:Int):=za;have j:=zd a;have d:=zd hB;clear a hB hc hz;go_wp2_with fail;(with_reducible refine(mE z _ (HT.o _ d.o) z1 z2).mono ?_);rintro e w3 ⟨b3,A3,n3,c3,E3,k3,f3,rfl,E,hb⟩;clear B;have u:=j.o.keep hb;have v:=y6.set_ yx u hlt E;rw [pM 0 ys n k y.o hlt _ x.o] at v;obtain⟨q0,q1,q2,sc0,sf0,sc1,sf1,sc2,sf2⟩:=u.ready hlt (.bool b3) (.slice A3 n3 c3);have I:=zd v;have H:=zd (pI (k*3) (k*3+1) (k*3+2) (.bool b3) (.slice A3 n3 c3) (.slice E3 k3 f3) F (ze d.o hb));clear u v hb E j d;go_wp2;go_roundg (n - k)
   case measure=>omega
   case rel=>exact⟨k+1,za,za,by go_num,I.o,H.o⟩
  ·have hk:k=n:=za;subst hk;have K:decide ((k:Int)<(k:Int))=false:=zD;have J:=zd (pL 0 ys k y.o▸a);have d:=zd hB;clear a hB;go_wp2;go_ret;exact⟨gp,rfl,F,J.o,d.o⟩
theorem ik {K:Nat}{xs:List Rat}(hT:zu w)(ha:zy w A n c xs)(hx:zH K xs)(hn:n<=1073741824:=by omega)(hK:K+2<=67108864:=by omega):
  Calls prog 45 #[.slice A n c] w (nQ w n xs):=by
 have B:=ha.len;have HG:zg (∀i,i<n->xs[i]?=some (xs.getD i 0)):=λi hi=>by
  rw [qQ,qZ za];rfl
 have H:zg (∀i,i<n->zH K [xs.getD i 0]):=λi hi y hy=>by
  rw [List.mem_singleton.1 hy];exact hx.at_ za
 unfold nQ;have x:=zd B;have HA:=zd ha;have HT:=zm w (λw' hb=>hT.on hb);obtain⟨Z,hZ⟩:=ov n za;have N:=λW=>(hZ W).1;have j:=zd (λW=>(hZ W).2);clear hT ha hx B hZ;have i0:(0:Int)<=(n:Int):=za;go_enter func45,ntmps45;go_wp2_with fail;clear N;have a:=j.o w;have hB:Below w.heap.size w (w.alloc (.cells Z 60)):=(qY _ w).alloc (qX _) _;obtain⟨gp,z⟩:∃g,w.heap.size=g:=⟨_,rfl⟩;have C:w.heap.size<=gp:=za;rw [z] at a⊢;rw [<-pK 0 xs n] at a;generalize w.alloc (.cells Z 60)=W1 at*;clear z j
 go_loopg [11] (n+1) (λg ix wr=>∃(k:Nat),k<=n/\n<g+k/\ix=.int .i64 k/\yk wr gp n (wF 0 xs n k)/\Below w.heap.size w wr)
 case atStart=>exact⟨0,QE _,za,rfl,a,hB⟩
 case round=>
  clear a hB;obtain⟨k,hkn,hg,rfl,a,hB⟩:=hrel;by_cases hlt:k<n
  ·obtain⟨ad,b1,B1,m1,d1,E1,u1,v1,rfl,-,I,J,L,hx⟩:=HA.o.get hB hlt;have M:decide ((k:Int)<(n:Int))=true:=decide_eq_true za;have i1:(0:Int)<=(k:Int):=za;have i2:(k:Int)<(n:Int):=za;obtain⟨s1,t1,t2,t3⟩:=ya wr 60 60 #[.bool b1,.slice B1 m1 d1,.slice E1 u1 v1] #[.bool b1,.slice B1 m1 d1,.slice E1 u1 v1];have D:=(zF wr 60 #[.bool b1,.slice B1 m1 d1,.slice E1 u1 v1]).2.1;obtain⟨p0,p1,p2⟩:=D.c3;have v:=zd (il t2 (hx.below s1));have m:=zd (a.keep s1);have d:=zd (ze hB s1);clear hx a hB s1 t1 t2 t3 D;go_wp2_with fail;(with_reducible refine(kk (HT.o _ d.o) v.o (H.o k hlt) zh za).mono ?_);rintro e w3 ⟨b3,A3,n3,c3,E3,k3,f3,rfl,h,hb⟩;clear I J L p0 p1 p2;have h:zt w3 (xs.getD k 0) b3 A3 n3 c3 E3 k3 f3:=by
    have e:ul [xs.getD k 0]=xs.getD k 0:=by rw [jT,eX,YB]
    rw [e] at h;exact h
   have t:=m.o.keep hb;have u:=y6.set_ yx t hlt h;rw [pM 0 xs n k x.o hlt _ (HG.o k hlt)] at u;obtain⟨q0,q1,q2,sc0,sf0,sc1,sf1,sc2,sf2⟩:=t.ready hlt (.bool b3) (.slice A3 n3 c3);have F:=zd u;have E:=zd (pI (k*3) (k*3+1) (k*3+2) (.bool b3) (.slice A3 n3 c3) (.slice E3 k3 f3) C (ze d.o hb));clear t u hb h m d v;go_wp2;go_roundg (n - k)
   case measure=>omega
   case rel=>exact⟨k+1,za,za,by go_num,F.o,E.o⟩
  ·have hk:k=n:=za;subst hk;have M:decide ((k:Int)<(k:Int))=false:=zD;have G:=zd (pL 0 xs k x.o▸a);have d:=zd hB;clear a hB;go_wp2;go_ret;exact⟨gp,rfl,C,G.o,d.o⟩
theorem Xr (n:Nat)(w:World)(hn:n<=64):Calls prog 71 #[.int .i64 (n:Int)] w (nE w n (List.replicate n 0)):=by
 unfold nE;obtain⟨ys,d⟩:∃ys,List.replicate n (0:Rat)=ys:=⟨_,rfl⟩;obtain⟨Z,hZ⟩:=ov n za;have hmk:=λW=>(hZ W).1;have a:=zd (hZ w).2;rw [d] at a⊢;have hd:decide ((n:Int)<0)=false:=decide_eq_false za;have hd2:decide (64<(n:Int))=false:=decide_eq_false za;have hd3:decide ((n:Int)>64)=false:=decide_eq_false za;have hB:=zd ((qY _ w).alloc (qX _) (.cells Z 60));clear hZ d;go_enter func71,ntmps71;go_wp2
 go_ret2
 exact⟨_,rfl,qX _,a.o,hB.o⟩
theorem Z7 (hT:zu w)(hp:wh p):
  Calls prog 56 #[.agg #[.int .i64 p,.int .i64 0]] w (yc w (ub p 0)):=by
 rw [sf];obtain⟨j,m⟩:=hp;have HT:=zm w (λw' hb=>hT.on hb);obtain⟨d,g,h,bz⟩:=ya w 74 60 #[.int .i64 p,.int .i64 0] #[.bool false,.slice none 0 0,.slice none 0 0];obtain⟨g0,g1⟩:=g.c2;have HB:=zd d;have HK:=zd h;clear hT d g h bz;go_enter func56,ntmps56;go_wp2_with fail;clear g0 g1;(with_reducible refine(mE p _ (HT.o _ HB.o) j m).mono ?_);rintro e w2 ⟨b2,A2,n2,c2,E2,k2,f2,rfl,i,hb⟩;have a:=zj hb HK.o;obtain⟨sc0,sf0,sc1,sf1,sc2,sf2⟩:=yg a (.bool b2) (.slice A2 n2 c2);obtain⟨r0,r1,r2⟩:=(yf a (.bool b2) (.slice A2 n2 c2) (.slice E2 k2 f2)).c3;have HG:=zd (xu i a (ze HB.o hb) za);clear hb a i HB HK;go_wp2;refine bodyPost_ret (v:=.agg #[.bool b2,.slice A2 n2 c2,.slice E2 k2 f2]) (by simp [results,results56,go_sem,r0,r1,r2]) rfl ?_;exact HG.o
theorem Z8 {q:Int}(hT:zu w)(hp:wh p)(hq:wh q)(h0:q≠0):
  Calls prog 56 #[.agg #[.int .i64 p,.int .i64 q]] w (yc w (ub p q)):=by
 rw [ng h0];obtain⟨m,t⟩:=hp;obtain⟨u,x⟩:=hq;have H0:=zd h0;have hd0:(q==0)=false:=by rw [beq_eq_false_iff_ne];exact h0
 have HT:=zm w (λw' hb=>hT.on hb);obtain⟨d,g,h,bz⟩:=ya w 74 60 #[.int .i64 p,.int .i64 q] #[.bool false,.slice none 0 0,.slice none 0 0];obtain⟨g0,g1⟩:=g.c2;have HB:=zd d;have HK:=zd h;clear hT d g h bz h0;go_enter func56,ntmps56;go_wp2_with fail;clear g0 g1;(with_reducible refine(si p q _ (HT.o _ HB.o) m t u x H0.o).mono ?_);rintro e w2 ⟨b2,A2,n2,c2,E2,k2,f2,rfl,i,hb⟩;obtain⟨s1,s2,s3⟩:=zF w2 60 #[.bool b2,.slice A2 n2 c2,.slice E2 k2 f2];obtain⟨p0,p1,p2⟩:=s2.c3;have a:=zj s1 (zj hb HK.o);have j:=i.below s1;obtain⟨sc0,sf0,sc1,sf1,sc2,sf2⟩:=yg a (.bool b2) (.slice A2 n2 c2);obtain⟨r0,r1,r2⟩:=(yf a (.bool b2) (.slice A2 n2 c2) (.slice E2 k2 f2)).c3;have HG:=zd (xu j a (ze (ze HB.o hb) s1) za);clear hb a i j HB HK s1 s2 s3;go_wp2;refine bodyPost_ret (v:=.agg #[.bool b2,.slice A2 n2 c2,.slice E2 k2 f2]) (by simp [results,results56,go_sem,r0,r1,r2]) rfl ?_;exact HG.o
theorem lD {q:Int}(hT:zu w)(hp:wh p)(hq:wh q):
  Calls prog 56 #[.agg #[.int .i64 p,.int .i64 q]] w (yc w (ub p q)):=by
 by_cases h0:q=0
 ·subst h0;exact Z7 hT hp
 ·exact Z8 hT hp hq h0
def zR (L:List (Int×Int)):List Rat:=L.map λq=>ub q.1 q.2
theorem iJ {W:World}(h:wW W A n c L):zH 1 (zR L):=λx hx=>by
 obtain⟨q,hq,rfl⟩:=List.mem_map.1 hx;obtain⟨⟨h1,h2⟩,h3,h4⟩:=h.ints q hq;exact se h1 h2 h3 h4
theorem nw (L:List (Int×Int)):(zR L).length=L.length:=YZ _
def uN (w:World)(n:Nat)(xs:List Rat)(e:Ending)(w':World):Prop:=∃(A:zf) (c:Nat),e=.returned (.slice A n c)/\zy w' A n c xs/\(∀ad,A=some ad->w.heap.size<=ad.block)/\Below w.heap.size w w'
theorem Y5 (hT:zu w)(h:wW w A n c L):
  Calls prog 21 #[.slice A n c] w (uN w n (zR L)):=by
 obtain⟨aj,ai,T,U,V⟩:=info_parts mK;have hn0:n<=1048576:=qA h.fits h.small;have HL:=zd h.len;have HG:zg (∀k,k<n->wh (L.getD k (0,0)).1/\wh (L.getD k (0,0)).2/\∃ad,A=some ad/\ad.block<w.heap.size/\w.cell? (ad.add (k*2))=some (.int .i64 (L.getD k (0,0)).1)/\w.cell? (ad.add (k*2+1))=some (.int .i64 (L.getD k (0,0)).2)):=λk hk=>by
  have hl:=h.len;have e:L[k]?=some (L.getD k (0,0)):=by rw [qQ,qZ za];rfl
  obtain⟨h1,h2⟩:=h.ints _ (QA e);exact⟨h1,h2,h.row k _ e⟩
 have HS:zg (∀k,k<n->zR (L.take (k+1))=zR (L.take k)++[ub (L.getD k (0,0)).1 (L.getD k (0,0)).2]):=λk hk=>by
  have hl:=h.len;unfold zR;rw [QY za,List.map_append,qQ,qZ za];rfl
 have HT:=zm w (λw' hb=>hT.on hb);unfold uN;clear h hT;have hB:=qY w.heap.size w;go_enter func21,ntmps21;go_wp2_with fail
 go_loopg [3,4] (n+1) (λg sl ix wr=>∃(k:Nat) (v:Value) (vs:List Value),k<=n/\n<g+k/\ix=.int .i64 k/\v=sl/\xo zt wr w.heap.size 60 v (zR (L.take k)) vs/\Below w.heap.size w wr)
 case atStart=>exact⟨0,_,_,QE _,za,rfl,rfl,xo.nil _ _ _,hB⟩
 case round=>
  clear hB;obtain⟨k,v,vs,hkn,hg,rfl,rfl,a,hB⟩:=hrel;by_cases hlt:k<n
  ·obtain⟨i,m,ad,rfl,hadb,t,x⟩:=HG.o k hlt;have I:=zd (HS.o k hlt);obtain⟨q,hq⟩:∃q,L.getD k (0,0)=q:=⟨_,rfl⟩;rw [hq] at i m t x I;obtain⟨q1,q2⟩:=q;dsimp only at i m t x I;have t:=zq hB t;have x:=ug (zq hB x);have ah:decide ((k:Int)<(n:Int))=true:=decide_eq_true za;have i1:(0:Int)<=(k:Int):=za;have i2:(k:Int)<(n:Int):=za;have P:=zd a;have K:=zd hB;have Z:=zd i;have aa:=zd m;have C:(zR (L.take k)).length=k:=by rw [nw,QX,HL.o];omega
   have N:=zd C;clear a hB i m hq C;go_wp2_with fail;(with_reducible refine(lD (HT.o _ K.o) Z.o aa.o).mono ?_);rintro e w5 ⟨b5,B5,m5,d5,E5,u5,f5,rfl,S,hb⟩;obtain⟨t1,t2,_⟩:=zF w5 60 #[.bool b5,.slice B5 m5 d5,.slice E5 u5 f5];obtain⟨ak,al,am⟩:=t2.c3;have J:=ze hb t1;have a:=xo.below yx P.o J;have HX:=zd (S.below t1);have HB:=zd (ze K.o J);have B:∀j u,[Value.bool b5,.slice B5 m5 d5,.slice E5 u5 f5][j]?=some u->(w5.alloc (.cells #[.bool b5,.slice B5 m5 d5,.slice E5 u5 f5] 60)).cell? ((⟨w5.heap.size,0,none⟩:Addr).add j)=some u:=λj u hu=>by
    rw [xh]
    match j,hu with
    |0,hu=>simp at hu;subst hu;exact t2.cell 0
    |1,hu=>simp at hu;subst hu;exact t2.cell 1
    |2,hu=>simp at hu;subst hu;exact t2.cell 2
   have H:=zd B;have Q:zg (∀u ∈ [Value.bool b5,.slice B5 m5 d5,.slice E5 u5 f5],u.oneCell'=true):=by intro u hu;simp at hu;rcases hu with rfl|rfl|rfl<;>rfl
   have ab:zg (∀u ∈ [Value.bool b5,.slice B5 m5 d5,.slice E5 u5 f5],vV u):=by intro u hu y z;simp at hu;rcases hu with rfl|rfl|rfl<;>(intro h9;cases h9)
   have af:zg (∀u ∈(Value.agg #[.bool false,.slice none 0 0,.slice none 0 0]).cells.toList,vV u):=by intro u hu y z;simp [Value.cells] at hu;rcases hu with rfl|rfl<;>(intro h9;cases h9)
   have M:zg (w.heap.size<=(w5.alloc (.cells #[.bool b5,.slice B5 m5 d5,.slice E5 u5 f5] 60)).heap.size):=HB.o.size;have E:=a.own;rw [N.o] at E;have R:=zd E;have O:=zd a.nou;have ae:=zd a;have ac:=zd (λr (h:v.ownBlock=some r)=>a.own.lt r h);clear hb J S B a t1 t2 t x ak al am E;go_wp2_with (at_builtin;go_loud (refine gO _ rfl (.tmp 11) (.tmp 17) 32 rfl w.heap.size 60 aj (.agg #[.bool false,.slice none 0 0,.slice none 0 0]) 3 56 underlying32 ai T U V rfl zh v k vs rfl R.o ⟨w5.heap.size,0,none⟩ 1 1 [.bool b5,.slice B5 m5 d5,.slice E5 u5 f5] rfl rfl H.o Q.o (by unfold maxLen;omega) za M.o O.o af.o ab.o ?_;intro v' w8 F d ag D;have G:=zd (xo.grow (n:=k+1) yx ae.o HX.o F (by rw [N.o]) d D);have Y:=zd (HB.o.grown d M.o (λr hr=>(ac.o r hr).1));clear F d ag D));rw [<-I.o] at G;go_roundg (n - k)
   case measure=>omega
   case rel=>exact⟨k+1,_,_,za,za,by go_num,rfl,G.o,Y.o⟩
  ·have ah:decide ((k:Int)<(n:Int))=false:=decide_eq_false za;have hk:k=n:=za;subst hk;rw [qU (by rw [HL.o];exact qX _)] at a;have C:(zR L).length=k:=by rw [nw];exact HL.o
   obtain⟨A1,c1,rfl,hv,hf⟩:=a.shape;rw [C] at hv⊢;have HV:=zd hv;have HF:=zd hf;have X:=zd hB;clear a hv hB C hf;go_wp2;go_ret;exact⟨A1,c1,rfl,HV.o,HF.o,X.o⟩
