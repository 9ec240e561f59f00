/- What this claim leans on. -/
import Derived.Test.YtdfdjfiognhbgaaGreatDoorDENext
set_option linter.unusedVariables false
set_option linter.unusedSimpArgs false
namespace Go.Proofs.YtdfdjfiognhbgaaGreatDoor
open Go Go.RowKit Go.Proofs.Tryz
set_option maxHeartbeats 16000000
set_option maxRecDepth 100000
variable {b:Bool}{M xs ys:List (List Rat)}{K c d i j k m n:Nat}
theorem Ve {r:Int}(e:tg r n=b)(A:ze)(c:Nat)(z:Int)(w:World):Calls prog 122 #[.agg #[.slice A n c,.int .i64 z],.int .i64 r] w (λe w'=>e=.returned (.bool b)/\Below w.heap.size w w'):=e▸Rj A n c z r w
theorem PL {r:Int}(e:tg r m=b)(A:ze)(n c:Nat)(w:World):Calls prog 123 #[.agg #[.slice A n c,.int .i64 (m:Int)],.int .i64 r] w (λe w'=>e=.returned (.bool b)/\Below w.heap.size w w'):=e▸Ri A n c m r w
section
variable {A:ze}{n c m K:Nat}{MM:List (List Rat)}{w:World}
theorem rR (hT:zu w)(h:yF w A n c m MM)(z:zV K MM)(hi:i<n)(hj:j<m)(hK:K+2<=67108864:=by omega):
  Calls prog 68 #[.agg #[.slice A n c,.int .i64 (m:Int)],.int .i64 (i:Int),.int .i64 (j:Int)] w (xe w (zv MM i j)):=by
 have HR:=λW=>za (Ve (ZH hi) A c (m:Int) W);have HC:=λW=>za (PL (ZH hj) A n c W);obtain⟨I,t,J,bz⟩:=zX w 28 41 #[.slice A n c,.int .i64 (m:Int)] #[.bool false,.slice none 0 0,.slice none 0 0];obtain⟨g0,g1⟩:=t.c2;have HM:=za h;have HS:=za (z.at_ h.dims hi hj);have HT:=zj w (λw' hb=>hT.on hb);have HB:=za I;have C:=za t;have D:=za J;clear hT h z I t J bz;go_enter func68,ntmps68;go_wp2_with fail;refine(HR _).o.mono ?_;rintro e w1 ⟨rfl,hb⟩;have u:=za (zc HB.o hb);have s:=za (zf hb C.o);have E:=za (zf hb D.o);obtain⟨g0,g1⟩:=s.o.c2;clear hb HB C D;go_wp2_with fail;refine(HC _).o.mono ?_;rintro e w2 ⟨rfl,hb⟩;have k:=za (zc u.o hb);have F:=za (zf hb s.o);have G:=za (zf hb E.o);obtain⟨g0,g1⟩:=F.o.c2;clear hb u s E;obtain⟨ad,B,d,rfl,-,hc,ae,b3,A3,n3,c3,E3,k3,f3,rfl,-,h0,h1,h2,L⟩:=HM.o.place k.o hi hj;have i1:(0:Int)<=(i:Int):=zb;have i2:(i:Int)<(n:Int):=zb;have i3:(0:Int)<=(j:Int):=zb;have i4:(j:Int)<(m:Int):=zb;obtain⟨t1,t2,-⟩:=zw w2 41 #[.bool b3,.slice A3 n3 c3,.slice E3 k3 f3];have HL:=za (Ua t2 (L.below t1));have o:=za (zc k.o t1);have H:=za (zf t1 G.o);have M:zd (zK K [zv MM i j]):=λy hy=>by rw [List.mem_singleton.1 hy];exact HS.o
 clear L t1 t2 F G k;go_wp2_with fail;(with_reducible refine(lK (HT.o _ o.o) HL.o M.o zg zb).mono ?_);rintro e w5 ⟨b5,A5,n5,c5,E5,k5,f5,rfl,a,hb⟩;have a:zo w5 (zv MM i j) b5 A5 n5 c5 E5 k5 f5:=by
  have e:uA [zv MM i j]=zv MM i j:=by rw [bG,WH,XJ]
  rw [e] at a;exact a
 have g:=zf hb H.o;obtain⟨sc0,sf0,sc1,sf1,sc2,sf2⟩:=yh g (.bool b5) (.slice A5 n5 c5);obtain⟨r0,r1,r2⟩:=(yg g (.bool b5) (.slice A5 n5 c5) (.slice E5 k5 f5)).c3;have HG:=za (wZ a g (zc o.o hb) zb);clear hb g a H o HL g0 g1 hc h0 h1 h2;go_wp2;refine bodyPost_ret (v:=.agg #[.bool b5,.slice A5 n5 c5,.slice E5 k5 f5]) (by simp [results,results68,go_sem,r0,r1,r2]) rfl ?_;exact HG.o
theorem UN (hT:zu w)(h:yF w A n c m MM)(z:zV K MM)(hi:i<n)(hK:K+2<=67108864:=by omega):
  Calls prog 84 #[.agg #[.slice A n c,.int .i64 (m:Int)],.int .i64 (i:Int)] w (m0 w m (MM.getD i [])):=by
 have hm:=h.hm;obtain⟨j,g,bz⟩:=zw w 28 #[.slice A n c,.int .i64 (m:Int)];obtain⟨g0,g1⟩:=g.c2;have HR:=λW=>za (Ve (ZH hi) A c (m:Int) W);have HM:=za h;have HT:=zj w (λw' hb=>hT.on hb);have HS:=za (z.row (i:=i) (by rw [h.dims.rows];exact hi));have HB:=za j;have HK:=za g;clear hT h z j g bz;unfold m0;go_enter func84,ntmps84;go_wp2_with fail;refine(HR _).o.mono ?_;rintro e w1 ⟨rfl,hb⟩;have a:=za (zc HB.o hb);obtain⟨g0,g1⟩:=(zf hb HK.o).c2;obtain⟨ad,B,d,rfl,-,hc,hv⟩:=HM.o.row a.o hi;have i1:(0:Int)<=(i:Int):=zb;have i2:(i:Int)<(n:Int):=zb;have HV:=za hv;clear hb HB HK hv;go_wp2_with fail;(with_reducible refine(V9 (HT.o _ a.o) HV.o HS.o).mono ?_);rintro e w5 ⟨g5,rfl,k,o,hb⟩;have HG:=za (And.intro (qL a.o.size k) (And.intro o (zc a.o hb)));clear g0 g1 k o hb hc;go_wp2
 go_ret2
 exact⟨g5,rfl,HG.o⟩
end
section
variable {A A':ze}{n n' c c' m m' K K' q q':Nat}{MM NN:List (List Rat)}{w:World}
theorem rp:∀(args:Array Value) (w':World),Sem.run prog (callFunc 27 args) w'=.ok (.enter 27 args) w':=Go.Proofs.enters_of func27 zP rfl
theorem pl {α:Type}{xs ys:List α}{n':Nat}(hx:xs.length=n)(hy:ys.length=n')(h:n≠n'):xs≠ys:=λe=>h (by rw [<-hx,<-hy,e])
theorem ms (hx:xs.length=n)(hy:ys.length=n)(hk:k<n)(h:xs.getD k []≠ys.getD k []):xs≠ys:=λe=>h (by rw [e])
theorem pk (hx:xs.length=n)(hy:ys.length=n)(h:∀k,k<n->xs.getD k []=ys.getD k []):xs=ys:=by
 apply jQ
 ·omega
 ·intro i h1 h2;have:=h i zb;rw [qQ,qQ,qX h1,qX h2] at this;exact this
theorem RO {t:Bool}(e:decide (MM=NN)=t)(hT:zu w)(h:y5 (zY zo) w A n MM)(h':y5 (zY zo) w A' n' NN)(z:zV K MM)(z':zV K' NN)(hr:∀L ∈ MM,L.length<=64)(D:∀L ∈ NN,L.length<=64)(hn:n<=64)(hK:K<=67108864)(E:K'<=67108864):
  Calls prog 72 #[.slice A n q,.slice A' n' q',.func (.func 27) #[] #[]] w (λe w'=>e=.returned (.bool t)/\Below w.heap.size w w'):=by
 have hl:=h.len;have m:=h'.len;have hEn:=rp;by_cases hq:n=n'
 ·subst hq;have HA:=za h;have I:=za h';have HT:=zj w (λw' hb=>hT.on hb);have HS:zd (∀i,i<n->zK K (MM.getD i [])):=λi hi=>z.row zb;have O:zd (∀i,i<n->zK K' (NN.getD i [])):=λi hi=>z'.row zb;have HR:zd (∀i,i<n->(MM.getD i []).length<=64):=λi hi=>hr _ (QJ (vY zb));have N:zd (∀i,i<n->(NN.getD i []).length<=64):=λi hi=>D _ (QJ (vY zb));have M:zd (∀k,k<n->MM.getD k []≠NN.getD k []->false=t):=λk hk R=>by
   rw [<-e];exact(decide_eq_false (ms hl m hk R)).symm
  have J:zd ((∀k,k<n->MM.getD k []=NN.getD k [])->true=t):=λha=>by
   rw [<-e];exact(decide_eq_true (pk hl m ha)).symm
  have hB:=qZ w.heap.size w;have e0:((n:Int) !=(n:Int))=false:=zE;have i0:(0:Int)<=(n:Int):=zb;clear h h' hT z z' hr D e hl m;go_enter func72,ntmps72;go_wp2_with fail
  go_loopg [17] (n+1) (λg ix wr=>∃(k:Nat),k<=n/\n<g+k/\ix=.int .i64 k/\zd (∀i,i<k->MM.getD i []=NN.getD i [])/\Below w.heap.size w wr)
  case atStart=>exact⟨0,qN _,zb,rfl,λi hi=>by omega,hB⟩
  case round=>
   clear hB;obtain⟨k,hkn,hg,rfl,H,hB⟩:=hrel;by_cases hlt:k<n
   ·obtain⟨ad,B,d,rfl,-,hc,hv⟩:=HA.o.get (zN zS) hB hlt rfl;obtain⟨ad',B',d',rfl,-,s,u⟩:=I.o.get (zN zS) hB hlt rfl;have Q:decide ((k:Int)<(n:Int))=true:=decide_eq_true zb;have i1:(0:Int)<=(k:Int):=zb;have i2:(k:Int)<(n:Int):=zb;have h5:=HR.o k hlt;have h6:=N.o k hlt;have v:=za (M.o k hlt);have y:=za (HS.o k hlt);have j:=za (O.o k hlt);have C:zd (MM.getD k []=NN.getD k []->∀i,i<k+1->MM.getD i []=NN.getD i []):=λhh i hi=>by
     by_cases e:i=k
     ·rw [e];exact hh
     ·exact H.o i zb
    obtain⟨X,hX⟩:∃X,MM.getD k []=X:=⟨_,rfl⟩;obtain⟨Y,hY⟩:∃Y,NN.getD k []=Y:=⟨_,rfl⟩;rw [hX] at hc hv h5 v y C;rw [hY] at s u h6 v j C;obtain⟨lx,F⟩:∃l,X.length=l:=⟨_,rfl⟩;obtain⟨ly,G⟩:∃l,Y.length=l:=⟨_,rfl⟩;rw [F] at hc hv h5;rw [G] at s u h6;have HV:=za hv;have o:=za u;have a:=za hB;clear hX hY hv u F G hB;by_cases h0:X=Y
    ·have HQ:=za (decide_eq_true h0);have P:=za (C.o h0);clear h0;go_wp2_with fail;(with_reducible refine(el HQ.o (HT.o _ a.o) HV.o o.o y.o j.o zb zb hK E).mono ?_);rintro e w3 ⟨rfl,hb⟩;have c:=za (zc a.o hb);clear hb hc s HV o a;go_wp2;go_roundg (n - k)
     case measure=>omega
     case rel=>exact⟨k+1,zb,zb,by go_num,P,c.o⟩
    ·have HQ:=za (decide_eq_false h0);have HF:=za (v.o h0);clear h0;go_wp2_with fail;(with_reducible refine(el HQ.o (HT.o _ a.o) HV.o o.o y.o j.o zb zb hK E).mono ?_);rintro e w3 ⟨rfl,hb⟩;have c:=za (zc a.o hb);clear hb hc s HV o a;go_wp2;go_ret;exact⟨by rw [<-HF.o];rfl,c.o⟩
   ·have hk:k=n:=zb;subst hk;have Q:decide ((k:Int)<(k:Int))=false:=zE;have HF:=za (J.o H.o);have c:=za hB;clear hB;go_wp2;go_ret;exact⟨by rw [<-HF.o];rfl,c.o⟩
 ·have e0:((n:Int) !=(n':Int))=true:=by rw [bne_iff_ne];omega
  have HF:zd (false=t):=by rw [<-e];exact(decide_eq_false (pl hl m hq)).symm
  clear h h' hT z z' hr D e hl m hq;go_enter func72,ntmps72;go_wp2;go_ret;exact⟨by rw [<-HF.o];rfl,qZ _ _⟩
theorem rS {t:Bool}(e:decide (m=m'/\MM=NN)=t)(hT:zu w)(h:yF w A n c m MM)(h':yF w A' n' c' m' NN)(z:zV K MM)(z':zV K' NN)(hK:K<=67108864:=by omega)(j:K'<=67108864:=by omega):
  Calls prog 26 #[.agg #[.slice A n c,.int .i64 (m:Int)],.agg #[.slice A' n' c',.int .i64 (m':Int)]] w (λe w'=>e=.returned (.bool t)/\Below w.heap.size w w'):=by
 obtain⟨a,d,g,bz⟩:=zX w 28 28 #[.slice A n c,.int .i64 (m:Int)] #[.slice A' n' c',.int .i64 (m':Int)];obtain⟨g0,g1⟩:=d.c2;obtain⟨p0,p1⟩:=g.c2;by_cases hq:m=m'
 ·have e0:((m:Int)==(m':Int))=true:=by rw [beq_iff_eq];omega
  have e1:decide (MM=NN)=t:=by
   rw [<-e];by_cases hx:MM=NN
   ·rw [decide_eq_true hx,decide_eq_true ⟨hq,hx⟩]
   ·rw [decide_eq_false hx,decide_eq_false (λy=>hx y.2)]
  have hx:=h.hm;have hy:=h'.hm;have H:=za (RO (q:=c) (q':=c') e1 (hT.on a) (h.keep a).rows (h'.keep a).rows z z' (λL hL=>by rw [h.dims.cols L hL];exact hx) (λL hL=>by rw [h'.dims.cols L hL];exact hy) h.hn hK j);have HB:=za a;clear h h' hT z z' a d g bz e e1 hq;go_enter func26,ntmps26;go_wp2_with fail;refine H.o.mono ?_;rintro e w1 ⟨rfl,hb⟩;have i:=za (zc HB.o hb);clear hb g0 g1 p0 p1;go_wp2;go_ret;exact⟨rfl,i.o⟩
 ·have e0:((m:Int)==(m':Int))=false:=by rw [beq_eq_false_iff_ne];omega
  have HF:zd (false=t):=by rw [<-e];exact(decide_eq_false (λy=>hq y.1)).symm
  have HB:=za a;clear h h' hT z z' a d g bz e hq;go_enter func26,ntmps26;go_wp2;go_ret;exact⟨by rw [<-HF.o];rfl,HB.o⟩
end
def z8 (M:Nat->Nat->Rat)(k:Nat)(v:Nat->Rat):Nat->Nat->Rat:=λi j=>if i=k then v j else M i j
theorem bV (M:Nat->Nat->Rat)(v:Nat->Rat)(c:Nat):yv (z8 M 0 v) c=yv M c:=by
 funext i j;unfold yv z8;rw [if_neg zb]
theorem fA (M:Nat->Nat->Rat)(k:Nat)(v:Nat->Rat)(c:Nat):yv (z8 M (k+1) v) c=z8 (yv M c) k λj=>v (yw c j):=by
 funext i j;unfold yv z8
 by_cases e:i=k
 ·rw [if_pos e,if_pos zb]
 ·rw [if_neg e,if_neg zb]
theorem ev:∀{n:Nat} (M:Nat->Nat->Rat) {k:Nat} (_:k<n) (a b:Rat) (u v:Nat->Rat),zI n (z8 M k λj=>a*u j+b*v j)=a*zI n (z8 M k u)+b*zI n (z8 M k v)
 |0,M,k,hk,_,_,_,_=>by omega
 |n+1,M,0,hk,a,b,u,v=>by
   rw [vr,vr,vr,wU,wU,<-sc];refine yt λc _=>?_;rw [bV,bV,bV];show sg c*(a*u c+b*v c)*_=a*(sg c*u c*_)+b*(sg c*v c*_)
   grind
 |n+1,M,k+1,hk,a,b,u,v=>by
   rw [vr,vr,vr,wU,wU,<-sc];refine yt λc _=>?_;rw [fA,fA,fA,ev (yv M c) zb a b];have e:∀w:Nat->Rat,z8 M (k+1) w 0 c=M 0 c:=λw=>by unfold z8;rw [if_neg zb]
   rw [e,e,e]
   grind
theorem RQ (k:Nat)(f:Nat->Rat):zC (k+1) f=f 0+zC k λi=>f (i+1):=by
 induction k with
 |zero=>rw [wj];show(0:Rat)+f 0=f 0+0;grind
 |succ k ih=>rw [wj,ih,wj];grind
theorem mE (h:d<=c):yw (c+1) (yw d j)=yw d (yw c j):=by
 unfold yw;by_cases h1:j<d
 ·rw [if_pos h1,if_pos (by omega:j<c),if_pos zb,if_pos h1]
 ·rw [if_neg h1];by_cases h2:j<c
  ·rw [if_pos h2,if_pos zb,if_neg h1]
  ·rw [if_neg h2,if_neg zb,if_neg zb]
theorem VR {M:Nat->Nat->Rat}(h:∀j,M 0 j=M 1 j):zI (n+2) M=0:=by
 obtain⟨g,hg⟩:∃g:Nat->Nat->Rat,∀c d,g c d=sg c*M 0 c*(sg d*M 1 (yw c d)*zI n (yv (yv M c) d)):=⟨_,λ_ _=>rfl⟩;have e1:zI (n+2) M=zC (n+2) λc=>zC (n+1) λd=>g c d:=by
  rw [vr];refine yt λc _=>?_;rw [vr,wU];exact yt λd _=>(hg c d).symm
 have a:∀c d,d<=c->g (c+1) d= -g d c:=λc d hd=>by
  rw [hg,hg];have s1:yw (c+1) d=d:=by unfold yw;rw [if_pos zb]
  have s2:yw d c=c+1:=by unfold yw;rw [if_neg zb]
  have s3:yv (yv M (c+1)) d=yv (yv M d) c:=by
   funext i j;unfold yv;rw [mE hd]
  rw [s1,s2,s3,h (c+1),h d,U6]
  grind
 have e2:∀c d,g c d=(if d<c then g c d else 0)+(if d<c then 0 else g c d):=λc d=>by
  by_cases q:d<c
  ·rw [if_pos q,if_pos q,XJ]
  ·rw [if_neg q,if_neg q,YM]
 have e3:(zC (n+2) λc=>zC (n+1) λd=>g c d)=(zC (n+2) λc=>zC (n+1) λd=>if d<c then g c d else 0)+zC (n+2) λc=>zC (n+1) λd=>if d<c then 0 else g c d:=by
  rw [<-sc];refine yt λc _=>?_;rw [<-sc];exact yt λd _=>e2 c d
 have e4:(zC (n+2) λc=>zC (n+1) λd=>if d<c then g c d else 0)=zC (n+1) λc=>zC (n+1) λd=>if d<=c then g (c+1) d else 0:=by
  rw [RQ,tj λd _=>by rw [if_neg zb],YM];exact yt λc _=>yt λd _=>by
   by_cases q:d<=c
   ·rw [if_pos q,if_pos zb]
   ·rw [if_neg q,if_neg zb]
 have e5:(zC (n+2) λc=>zC (n+1) λd=>if d<c then 0 else g c d)=zC (n+1) λd=>zC (n+1) λc=>if c<=d then g c d else 0:=by
  rw [aF];refine yt λd hd=>?_;rw [wj,if_pos zb,XJ];exact yt λc _=>by
   by_cases q:c<=d
   ·rw [if_pos q,if_neg zb]
   ·rw [if_neg q,if_pos zb]
 rw [e1,e3,e4,e5,<-sc];refine tj λc _=>?_;rw [<-sc];refine tj λd _=>?_;by_cases q:d<=c
 ·rw [if_pos q,if_pos q,a c d q];grind
 ·rw [if_neg q,if_neg q];grind
theorem Zt (M:Nat->Nat->Rat)(k:Nat)(v:Nat->Rat)(j:Nat):z8 M k v k j=v j:=if_pos rfl
theorem iN (M:Nat->Nat->Rat){k i:Nat}(h:i≠k)(v:Nat->Rat)(j:Nat):z8 M k v i j=M i j:=if_neg h
theorem aE {M:Nat->Nat->Rat}{l:Nat}(h:k≠l)(u v:Nat->Rat):z8 (z8 M k u) l v=z8 (z8 M l v) k u:=by
 funext i j
 unfold z8;by_cases e:i=l
 ·rw [if_pos e,if_neg zb,if_pos e]
 ·rw [if_neg e,if_neg e]
theorem lN {n k l:Nat}(hk:k<n)(hl:l<n)(c:k≠l)(same:∀M:Nat->Nat->Rat,(∀j,M k j=M l j)->zI n M=0)(M:Nat->Nat->Rat)(u v:Nat->Rat):zI n (z8 (z8 M k u) l v)= -zI n (z8 (z8 M k v) l u):=by
 have s:∀w:Nat->Rat,zI n (z8 (z8 M k w) l w)=0:=λw=>same _ λj=>by rw [Zt,iN _ c,Zt]
 have e1:∀a x y:Nat->Rat,zI n (z8 (z8 M k a) l λj=>1*x j+1*y j)=1*zI n (z8 (z8 M k a) l x)+1*zI n (z8 (z8 M k a) l y):=λa x y=>ev _ hl 1 1 x y;have e2:∀b x y:Nat->Rat,zI n (z8 (z8 M k λj=>1*x j+1*y j) l b)=1*zI n (z8 (z8 M k x) l b)+1*zI n (z8 (z8 M k y) l b):=λb x y=>by
  rw [aE c,aE c,aE c];exact ev _ hk 1 1 x y
 have h1:=s λj=>1*u j+1*v j;rw [e1,e2,e2,s u,s v] at h1
 grind
theorem bM:∀{n:Nat} {M:Nat->Nat->Rat} {k l:Nat},k<l->l<n->(∀j,M k j=M l j)->zI n M=0
 |0,_,_,_,_,h,_=>by omega
 |n+1,M,k+1,l,hkl,hl,h=>by
   rw [vr];refine tj λc _=>?_;obtain⟨l',rfl⟩:∃q,l=q+1:=⟨l - 1,zb⟩;rw [bM (n:=n) (M:=yv M c) (k:=k) (l:=l') zb zb λj=>h _,xI]
 |n+1,M,0,l,hkl,hl,h=>by
   obtain⟨n',rfl⟩:∃q,n=q+1:=⟨n - 1,zb⟩;by_cases e:l=1
   ·subst e;exact VR h
   ·-- rows 1 and l are exchanged:below the first row all rows are known
    have e1:zI (n'+2) M= -zI (n'+2) (z8 (z8 M 1 (M l)) l (M 1)):=by
     rw [vr,vr,<-Zj];refine yt λc _=>?_;obtain⟨l',rfl⟩:∃q,l=q+1:=⟨l - 1,zb⟩;have f1:z8 (z8 M 1 (M (l'+1))) (l'+1) (M 1) 0 c=M 0 c:=by rw [iN _ zb,iN _ zb]
     have f2:yv (z8 (z8 M (0+1) (M (l'+1))) (l'+1) (M 1)) c=z8 (z8 (yv M c) 0 λj=>M (l'+1) (yw c j)) l' λj=>M 1 (yw c j):=by rw [fA,fA]
     have f3:yv M c=z8 (z8 (yv M c) 0 λj=>M 1 (yw c j)) l' λj=>M (l'+1) (yw c j):=by
      funext i j
      unfold z8;by_cases q1:i=l'
      ·rw [if_pos q1,q1];rfl
      ·rw [if_neg q1];by_cases q2:i=0
       ·rw [if_pos q2,q2];rfl
       ·rw [if_neg q2]
     have f4:=lN (n:=n'+1) (k:=0) (l:=l') zb zb zb (λN hN=>bM (n:=n'+1) (M:=N) (k:=0) (l:=l') zb zb hN) (yv M c) (λj=>M 1 (yw c j)) (λj=>M (l'+1) (yw c j));rw [<-f3] at f4;rw [f1,f2,f4]
     grind
    rw [e1,VR (M:=z8 (z8 M 1 (M l)) l (M 1)) λj=>by
     rw [iN _ zb,iN _ zb,iN _ zb,Zt];exact h j,Rat.neg_zero]
section
variable {w w':World}{g:Nat}{st:wn}{rd:Rat}{A:ze}{n cA:Nat}{B:ze}{k cB:Nat}{x0 x1 x2 y0 y1 y2:Value}
theorem Pd {a0:Nat->Nat->Rat}(hT:zu w)(hE:z6 w g st rd A n cA B k cB x0 x1 x2 y0 y1 y2)(a:wh n m c a0 st)(ha:∀i,i<n->∀j,j<m->LI K (a0 i j))(hc:c<m)(hn:n<=64)(hm:m<=128)(d:0<g)(hK:260*K+269<=33554432:=by omega):
  Calls prog 83 #[.pointer (some ⟨g,0,none⟩),.int .i64 (c:Int)] w (fH w g n (p9 c st) rd):=by
 by_cases hb:wm c st<st.S.length - st.ld.length
 ·exact TD hT hE a ha hc hn hm d hb hK
 ·exact T9 hT hE a ha hc hn hb hK
theorem z6.grownA (h:z6 w g st rd A n cA B k cB x0 x1 x2 y0 y1 y2)(hg:w.grownBy w' (Value.slice A n cA).ownBlock):zh w' g 84 #[.slice A n cA,.slice B k cB,x0,x1,x2,y0,y1,y2]/\uB w' g (.slice B k cB) st.ld/\RV w' st.p x0 x1 x2/\RV w' rd y0 y1 y2:=by
 cases hv:(Value.slice A n cA).ownBlock with
 |none=>
   rw [hv] at hg;have:=h.below (lP hg);exact⟨this.blk,this.lds,this.lead,this.rsd⟩
 |some q=>
   rw [hv] at hg;obtain⟨d,cs,hk,hs⟩:=h.neA hv;have ho:=ya.of_grown hg;refine⟨(hg.block g h.blk.lt (λe=>d (by injection e with e;exact e.symm))).trans h.blk,h.lds.off (λq2 s ds c a=>?_),h.lead.off hk (kt hs) ho,h.rsd.off hk (kt hs) ho⟩;obtain⟨_,ds',h1,_⟩:=h.neB c;exact(hg.block q2 a.lt (λe=>by injection e with e;subst e;exact absurd (tp h1 hk) zg)).trans a
theorem z6.growRow {C:ze}{L:List Rat}{v':Value}{vs:List Value}(h:z6 w g st rd A n cA B k cB x0 x1 x2 y0 y1 y2)(hr:yk (VZ g) w g 64 (.slice A n cA) st.S vs)(hg:w.grownBy w' (Value.slice A n cA).ownBlock)(ho:w'.ownsRow g 64 1 v' (n+1) (vs++[.slice C m d]))(hp:wu w' v')(hx:VZ g w C m d L)(hm:L.length=m):∃A' a,v'=.slice A' (n+1) a/\z6 (w'.setCell ⟨g,0,none⟩ v') g {st with S:=st.S++[L]} rd A' (n+1) a B k cB x0 x1 x2 y0 y1 y2:=by
 obtain⟨h1,h2,h3,h4⟩:=h.grownA hg;have hl:=hr.grow (wW g) hx hm ho (by rw [h.hn]) hg hp;have i:(st.S++[L]).length=n+1:=by rw [QV,h.hn];rfl
 obtain⟨A',a,e,-⟩:=hl.shape i;subst e;refine⟨A',a,rfl,?_⟩;have t:∀q,(Value.slice A' (n+1) a).ownBlock=some q->q≠g:=λq hq=>by
  rcases ho.2 with⟨h5,_⟩|⟨g',cap,cur,e1,e2,e3,_⟩
  ·rw [h5] at hq;cases hq
  ·rw [e1] at hq;simp [Value.ownBlock] at hq;subst hq;intro e;exact absurd (tp e3 (e▸h1)) zg
 have o:∀q,(Value.slice B k cB).ownBlock=some q->q≠g:=λq hq=>(h.neB hq).1;have c:=h.nok;have j:ya g w' (w'.setCell ⟨g,0,none⟩ (.slice A' (n+1) a)):=ya.of_far ((z4.refl g w').set_ 0 _);exact {
  blk:=h1.set_ 0 _
  hn:=i
  hk:=h.hk
  rows:=⟨_,hl.off (λq s cs hq hk=>zh.far (p:=⟨g,0,none⟩) hk (t q hq) _) (λhx=>ZK hx h1 c j)⟩
  lds:=h2.off λq s cs hq hk=>zh.far (p:=⟨g,0,none⟩) hk (o q hq) _
  lead:=h3.off h1 c j
  rsd:=h4.off h1 c j}
theorem z6.newRd {r:Rat}{z0 z1 z2:Value}(h:z6 w g st rd A n cA B k cB x0 x1 x2 y0 y1 y2)(hp:RV w r z0 z1 z2):z6 (((w.setCell ⟨g,5,none⟩ z0).setCell ⟨g,6,none⟩ z1).setCell ⟨g,7,none⟩ z2) g st r A n cA B k cB x0 x1 x2 z0 z1 z2:=
 h.store ((((z4.refl g w).set_ 5 z0).set_ 6 z1).set_ 7 z2) (((h.blk.set_ 5 z0).set_ 6 z1).set_ 7 z2) h.lead hp λq s cs hq hk=>zh.far (p:=⟨g,7,none⟩) (zh.far (p:=⟨g,6,none⟩) (zh.far (p:=⟨g,5,none⟩) hk hq z0) hq z1) hq z2
theorem z6.new {b1 b2:Bool}{A1 A2 E1 E2:ze}{n1 c1 k1 f1 n2 c2 k2 f2:Nat}(w:World)(h1:zo w 1 b1 A1 n1 c1 E1 k1 f1)(h2:zo w 1 b2 A2 n2 c2 E2 k2 f2):z6 (w.alloc (.cells #[.slice none 0 0,.slice none 0 0,.bool b1,.slice A1 n1 c1,.slice E1 k1 f1,.bool b2,.slice A2 n2 c2,.slice E2 k2 f2] 84)) w.heap.size ⟨[],[],1⟩ 1 none 0 0 none 0 0 (.bool b1) (.slice A1 n1 c1) (.slice E1 k1 f1) (.bool b2) (.slice A2 n2 c2) (.slice E2 k2 f2):=by
 obtain⟨hb,hk,-⟩:=zw w 84 #[.slice none 0 0,.slice none 0 0,.bool b1,.slice A1 n1 c1,.slice E1 k1 f1,.bool b2,.slice A2 n2 c2,.slice E2 k2 f2];exact{blk:=hk,hn:=rfl,hk:=rfl,rows:=⟨[],yk.nil _ _ _⟩,lds:=uB.nil _ _,lead:=RV.of (h1.below hb),rsd:=RV.of (h2.below hb)}
def x4 (M:List (List Rat)):List (List Rat):=M.map λrow=>y6 (yi row) row
def vq (M:List (List Rat)):Rat:=M.foldl (λr row=>r*yi row) 1
theorem SO (h:i<M.length):x4 (M.take (i+1))=x4 (M.take i)++[y6 (yi (M.getD i [])) (M.getD i [])]:=by
 unfold x4;rw [qE h,YX,qQ,qX h];rfl
theorem cQ (h:i<M.length):vq (M.take (i+1))=vq (M.take i)*yi (M.getD i []):=by
 unfold vq;rw [qE h,yR,qQ,qX h];rfl
theorem cU (h:zM M n m):zM (x4 M) n m:=⟨by unfold x4;rw [xV];exact h.rows,λL hL=>by
 unfold x4 at hL;obtain⟨row,hr,rfl⟩:=List.mem_map.1 hL;exact ti (h.cols row hr)⟩
theorem fb (h:zM M n m){i:Nat}(hi:i<n)(j:Nat):zv (x4 M) i j=yi (M.getD i [])*zv M i j:=by
 have hl:=h.rows;unfold zv x4;rw [qQ (l:=List.map _ _),QQ,vY (d:=[]) zb];exact fh j
structure wN (K:Nat)(M:List (List Rat)):Prop where
 q:∀row ∈ M,LI K (yi row)
 x:∀row ∈ M,∀x ∈ row,LI K (yi row*x)
theorem wN.at_ {n:Nat}(h:wN K M)(hd:zM M n m):∀i,i<n->∀j,j<m->LI K (zv (x4 M) i j):=λi hi j hj=>by
 rw [fb hd hi];have hl:=hd.rows;have hr:=hd.row hi;have h1:M.getD i [] ∈ M:=QJ (vY zb);refine h.x _ h1 _ ?_;unfold zv;exact QJ (vY (d:=0) zb)
theorem aA {K:Nat}{M:List (List Rat)}(h:wN K M):∀i,i<=M.length->LI (1+i*K) (vq (M.take i))
 |0,_=>by rw [Nat.zero_mul];exact LI.one
 |i+1,hi=>by
   rw [cQ zb];exact((aA h i zb).mul (h.q _ (QJ (vY zb)))).up (by rw [Nat.succ_mul];omega)
end
