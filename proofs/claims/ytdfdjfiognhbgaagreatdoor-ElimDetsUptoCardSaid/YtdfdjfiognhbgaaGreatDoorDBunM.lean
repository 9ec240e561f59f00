/- What this claim leans on. -/
import Derived.Test.YtdfdjfiognhbgaaGreatDoorDBunN
set_option linter.unusedVariables false
set_option linter.unusedSimpArgs false
namespace Go.Proofs.YtdfdjfiognhbgaaGreatDoor
open Go Go.RowKit
set_option maxHeartbeats 16000000
variable {L L0 Q p p0:List Nat}{D M N P U X a b c h i j k m n t v x y:Nat}
theorem kj (l:List Nat)(k d:Nat)(h:k<l.length):(l.set k d).take (k+1)=l.take k++[d]:=by
 rw [qE (by simpa using h)];simp [jZ];exact List.set_eq_of_length_le (by simp;omega)
theorem iJ (l:List Nat)(k d:Nat):(l.set k d).drop (k+1)=l.drop (k+1):=by
 rw [List.drop_set,if_pos zb]
theorem zD.set_ {l:List Nat}(h:zD b l)(k:Nat){d:Nat}(hd:d<b):zD b (l.set k d):=by
 intro e he;rcases XQ he with h1|h1
 ·exact h e h1
 ·omega
theorem iD {l m:List Nat}(h:l.drop k=m.drop k):l.getD k 0=m.getD k 0:=by
 have h1:=congrArg (λl=>l.getD 0 0) h;simpa [qQ,YP] using h1
theorem ew {l m:List Nat}(h:l.drop k=m.drop k):l.drop (k+1)=m.drop (k+1):=by
 have h1:=congrArg (List.drop 1) h;rwa [List.drop_drop,List.drop_drop] at h1
structure oQ (x a b k n:Nat)(L:List Nat)(c:Nat):Prop where
 len:L.length=n
 dgs:zD 18446744073709551616 L
 carry:c<18446744073709551616
 rest:L.drop k=(dg 18446744073709551616 x).drop k
 sum:dv 18446744073709551616 (L.take k)+18446744073709551616^k*c=x%18446744073709551616^k*a+b
theorem oQ.start {a:Nat}(hn:(dg 18446744073709551616 x).length=n)(hb:b<18446744073709551616):oQ x a b 0 n (dg 18446744073709551616 x) b:=
 ⟨hn,vV zg x,hb,rfl,by simp [dv,xT]⟩
theorem aM {p q r s:Nat}(hp:p<18446744073709551616)(hq:q<18446744073709551616)(hr:r<18446744073709551616)(hs:s<18446744073709551616):(p*q+r+s) / 18446744073709551616<18446744073709551616:=by
 have h1:p*q<=18446744073709551615*18446744073709551615:=Nat.mul_le_mul zb zb;omega
theorem oQ.get (h:oQ x a b k n L c):L.getD k 0=wd x k:=by rw [iD h.rest,oH]
theorem oQ.step {s:Nat}(h:oQ x a b k n L c)(ha:a<18446744073709551616)(hk:k<n)(hs:s=wd x k*a+c+0):
  oQ x a b (k+1) n (L.set k (s%18446744073709551616)) (s / 18446744073709551616):=by
 refine⟨by simpa using h.len,h.dgs.set_ k (QH _ zg),?_,by rw [iJ];exact ew h.rest,?_⟩
 ·rw [hs];exact aM (wF x k) ha h.carry zg
 ·have e:=h.sum;rw [kj _ _ _ (by rw [h.len];exact hk),vA,qB,h.len,xZ zb,vO 18446744073709551616 x k,qP,qG,xE,<-qC,XS,hs];show _=(x%_+18446744073709551616^k*wd x k)*a+b;rw [xN,qC,QE,<-qG];omega
theorem oQ.done {L:List Nat}(h:oQ x a b n n L c)(hn:(dg 18446744073709551616 x).length<=n):dv 18446744073709551616 (L++[c])=x*a+b:=by
 have e:=h.sum;rw [qU (by rw [h.len];exact qY _),qO (qJ (ym zg x) (qV zg hn))] at e;rw [vA,h.len,e]
structure vG (L0:List Nat)(y a i j N:Nat)(L:List Nat)(c:Nat):Prop where
 len:L.length=N
 dgs:zD 18446744073709551616 L
 carry:c<18446744073709551616
 rest:L.drop (i+j)=L0.drop (i+j)
 sum:dv 18446744073709551616 (L.take (i+j))+18446744073709551616^(i+j)*c=dv 18446744073709551616 (L0.take (i+j))+18446744073709551616^i*(a*(y%18446744073709551616^j))
theorem vG.start (y a i:Nat)(hn:L0.length=N)(hd:zD 18446744073709551616 L0):vG L0 y a i 0 N L0 0:=
 ⟨hn,hd,zg,rfl,by simp [xT]⟩
theorem vG.step {s:Nat}(h:vG L0 y a i j N L c)(ha:a<18446744073709551616)(hk:i+j<N)(hs:s=wd y j*a+L.getD (i+j) 0+c):
  vG L0 y a i (j+1) N (L.set (i+j) (s%18446744073709551616)) (s / 18446744073709551616):=by
 have hp:=h.dgs.getD zg (i+j);refine⟨by simpa using h.len,h.dgs.set_ _ (QH _ zg),?_,by rw [<-xE,iJ];exact ew h.rest,?_⟩
 ·rw [hs];exact aM (wF y j) ha hp h.carry
 ·have e:=h.sum;have eg:=iD h.rest;rw [<-xE,kj _ _ _ (by rw [h.len];exact hk),vA,qB,h.len,xZ zb,vT _ L0,<-eg,vO 18446744073709551616 y j,qP,qG,xE,<-qC,XS,hs];obtain⟨p,d⟩:∃p,L.getD (i+j) 0=p:=⟨_,rfl⟩;rw [d];show _=_+18446744073709551616^i*(a*(y%_+18446744073709551616^j*wd y j));rw [qC,qC,qC a,qC (18446744073709551616^i)];have e2:18446744073709551616^i*(a*(18446744073709551616^j*wd y j))=18446744073709551616^(i+j)*(wd y j*a):=by
   rw [xX,qG (18446744073709551616^i)];refine congrArg _ ?_;rw [Nat.mul_left_comm,qS a]
  rw [e2];omega
structure oq (x y i m N:Nat)(L:List Nat):Prop where
 len:L.length=N
 dgs:zD 18446744073709551616 L
 sum:dv 18446744073709551616 (L.take (i+m))=x%18446744073709551616^i*y
theorem oq.start (x y m N:Nat):oq x y 0 m N (List.replicate N 0):=by
 refine⟨zE,zD.zeros zg N,?_⟩;rw [List.take_replicate,jB,XB,xT,Nat.zero_mul]
theorem oq.step (h0:oq x y i m N L0)(h:vG L0 y (wd x i) i m N L c)(hy:(dg 18446744073709551616 y).length<=m)(hk:i+m<N):oq x y (i+1) m N (L.set (i+m) c):=by
 refine⟨by simpa using h.len,h.dgs.set_ _ h.carry,?_⟩;have e:=h.sum;rw [h0.sum,qO (qJ (ym zg y) (qV zg hy))] at e;rw [show i+1+m=i+m+1 from by omega,kj _ _ _ (by rw [h.len];exact hk),vA,qB,h.len,xZ zb,e,vO 18446744073709551616 x i,QE];show _=_+18446744073709551616^i*wd x i*y;rw [qG]
theorem oq.done {L:List Nat}(h:oq x y n m (n+m) L)(hx:(dg 18446744073709551616 x).length<=n):dv 18446744073709551616 L=x*y:=by
 have e:=h.sum;rwa [qU (by rw [h.len];exact qY _),qO (qJ (ym zg x) (qV zg hx))] at e
theorem rQ (p q r s:Nat):vo (p:Int) (q:Int) (r:Int) (s:Int)=((p*q+r+s) / 18446744073709551616:Nat)/\tC (p:Int) (q:Int) (r:Int) (s:Int)=((p*q+r+s)%18446744073709551616:Nat):=by
 unfold vo tC;constructor<;>simp
structure oo (x a k n:Nat)(L:List Nat)(r:Nat):Prop where
 len:L.length=n
 dgs:zD 18446744073709551616 L
 rest:r<a
 low:L.take k=(dg 18446744073709551616 x).take k
 sum:dv 18446744073709551616 (L.drop k)*a+r=x / 18446744073709551616^k
theorem oo.start {a:Nat}(hn:(dg 18446744073709551616 x).length=n)(ha:a≠0):oo x a n n (dg 18446744073709551616 x) 0:=by
 refine⟨hn,vV zg x,zb,rfl,?_⟩;have h:=ym (b:=18446744073709551616) zg x;rw [hn] at h;rw [xG zb,QL h];simp [dv]
theorem mt (l:List Nat)(k d:Nat):(l.set k d).take k=l.take k:=by
 rw [jZ];exact List.set_eq_of_length_le (by simp;omega)
theorem V0 (l:List Nat)(k d:Nat)(h:k<l.length):(l.set k d).drop k=d::l.drop (k+1):=by
 rw [yC (by simpa using h),iJ];simp
theorem PE {l m:List Nat}(h:l.take (k+1)=m.take (k+1)):l.take k=m.take k:=by
 have h1:=congrArg (List.take k) h;rwa [List.take_take,List.take_take,xZ zb] at h1
theorem pH {l m:List Nat}(h:l.take k=m.take k)(hj:j<k):l.getD j 0=m.getD j 0:=by
 have h1:=congrArg (λl=>l.getD j 0) h;simpa [qQ,XO,hj] using h1
theorem oo.get {r:Nat}(h:oo x a k n L r){j:Nat}(hj:j<k):L.getD j 0=wd x j:=by rw [pH h.low hj,oH]
theorem oo.step {r s:Nat}(h:oo x a (k+1) n L r)(hk:k<n)(hs:s=r*18446744073709551616+wd x k)(ha:a<18446744073709551616):oo x a k n (L.set k (s / a)) (s%a):=by
 have hw:=wF x k;have hr:=h.rest;have hq:s / a<18446744073709551616:=by
  refine(QP zb).2 ?_;have:(r+1)*18446744073709551616<=a*18446744073709551616:=qW _ hr;rw [qS _ a];omega
 refine⟨by simpa using h.len,h.dgs.set_ k hq,QH _ zb,by rw [mt];exact PE h.low,?_⟩;have e:=h.sum;have e2:=jT 18446744073709551616 x k;have e3:=XK s a;rw [V0 _ _ _ (by rw [h.len];exact hk),dv,e2,<-e];unfold wd at hs;rw [QE,qC,qG,qS (s / a) a];omega
theorem oo.done {r:Nat}{L:List Nat}(h:oo x a 0 n L r):dv 18446744073709551616 L=x / a/\r=x%a:=by
 have e:=h.sum;have h3:=h.rest;rw [XB,Nat.div_one,List.drop_zero] at e;have hm:0<a:=zb;refine⟨?_,?_⟩
 ·rw [<-e,YG,Nat.add_mul_div_right _ _ hm,QL h3,xA]
 ·rw [<-e,YG,Nat.add_mul_mod_self_right,qO h3]
structure vS (P D U h v M:Nat):Prop where
 hM:0<M
 hh:18446744073709551616<=2*h
 hb:h<18446744073709551616
 vb:v<18446744073709551616
 D0:(h*18446744073709551616+v)*M<=D
 D1:D<(h*18446744073709551616+v+1)*M
 P0:U*(18446744073709551616*M)<=P
 P1:P<(U+1)*(18446744073709551616*M)
 lt:P<18446744073709551616*D
theorem vS.Dpos (H:vS P D U h v M):0<D:=by
 rcases QT D with e|e
 ·have:=H.lt;rw [e] at this;omega
 ·exact e
theorem vS.q (H:vS P D U h v M):P / D*D<=P/\P<(P / D+1)*D/\P / D<18446744073709551616:=by
 refine⟨Nat.div_mul_le_self P D,?_,(QP H.Dpos).2 (by have:=H.lt;omega)⟩;have:=Nat.lt_div_mul_add (a:=P) H.Dpos;rw [QE,yD];exact this
theorem vS.Dh (H:vS P D U h v M):h*(18446744073709551616*M)<=D/\D<=(h+1)*(18446744073709551616*M):=by
 have h0:=H.D0;have h1:=H.D1;constructor
 ·rw [<-qG];exact qL (qW M (Nat.le_add_right _ _)) h0
 ·rw [<-qG];refine qL (QD h1) (qW M ?_);have:=H.vb;rw [QE];omega
theorem vS.top (H:vS P D U h v M):U<(h+1)*18446744073709551616:=by
 have h0:=H.P0;have h1:=H.lt;have h2:=H.Dh.2;have h3:18446744073709551616*D<=18446744073709551616*((h+1)*(18446744073709551616*M)):=QB _ h2;have h4:U*(18446744073709551616*M)<(h+1)*18446744073709551616*(18446744073709551616*M):=by
  rw [qS (h+1),qG];omega
 exact yO h4
theorem vS.le (H:vS P D U h v M):P / D*h<=U:=by
 obtain⟨h0,_,_⟩:=H.q;have h1:=H.P1;have h2:P / D*(h*(18446744073709551616*M))<=P / D*D:=QB _ H.Dh.1;rw [<-qG] at h2;have h3:P / D*h*(18446744073709551616*M)<(U+1)*(18446744073709551616*M):=zb;have:=yO h3;omega
theorem vS.two (H:vS P D U h v M)(ht:t*h<=U)(tb:t<18446744073709551616):t<=P / D+2:=by
 obtain⟨_,h1,_⟩:=H.q;obtain⟨q,hq⟩:∃q,P / D=q:=⟨_,rfl⟩;rw [hq] at h1⊢;have h2:(q+1)*D<=(q+1)*((h+1)*(18446744073709551616*M)):=QB _ H.Dh.2;have h3:t*h*(18446744073709551616*M)<=U*(18446744073709551616*M):=qW _ ht;have h4:=H.P0;rw [<-qG] at h2;have h5:t*h*(18446744073709551616*M)<(q+1)*(h+1)*(18446744073709551616*M):=zb;have h6:=yO h5;have h7:=H.hh;rcases xY (q+2) t with hc|hc
 ·obtain⟨s,rfl⟩:∃s,t=q+1+s:=⟨t - (q+1),zb⟩;have h8:2<=s:=zb;rw [QE (q+1) s h,qC (q+1) h 1,xC] at h6;have h9:2*h<=s*h:=qW _ h8;omega
 ·exact hc
theorem vS.dec {t r:Nat}(H:vS P D U h v M)(ht:t*h+r=U)(hv:(r+1)*18446744073709551616<=t*v):P / D+1<=t:=by
 have h1:=H.P1;have h2:t*((h*18446744073709551616+v)*M)<=t*D:=QB _ H.D0;have h3:(U+1)*18446744073709551616<=t*(h*18446744073709551616+v):=by
  rw [qC t (h*18446744073709551616) v,<-qG t h,<-ht];have:(t*h+r+1)*18446744073709551616=t*h*18446744073709551616+(r+1)*18446744073709551616:=by rw [xE (t*h) r 1,QE (t*h) (r+1)]
  rw [this];exact YY hv _
 have h4:(U+1)*18446744073709551616*M<=t*(h*18446744073709551616+v)*M:=qW _ h3;rw [qG (U+1)] at h4;rw [<-qG t] at h2;have h5:P<t*D:=zb;exact(QP H.Dpos).2 h5
theorem vS.one {t r:Nat}(H:vS P D U h v M)(ht:t*h+r=U)(tb:t<18446744073709551616)(hv:t*v<(r+1)*18446744073709551616):t<=P / D+1:=by
 obtain⟨_,h1,_⟩:=H.q;obtain⟨q,hq⟩:∃q,P / D=q:=⟨_,rfl⟩;rw [hq] at h1⊢;rcases xY (q+1) t with hc|hc
 ·obtain⟨s,rfl⟩:∃s,t=s+1:=⟨t - 1,zb⟩;have h2:(q+1)*D<=s*D:=qW _ zb;have h3:s*D<=s*((h*18446744073709551616+v+1)*M):=QB _ (QD H.D1);have h4:=H.P0;rw [<-qG] at h3 h4;have h5:U*18446744073709551616*M<s*(h*18446744073709551616+v+1)*M:=zb;have h6:=yO h5;have h7:=H.hh;have e1:(s+1)*v=s*v+v:=by rw [QE,yD]
  have e2:U*18446744073709551616=s*h*18446744073709551616+h*18446744073709551616+r*18446744073709551616:=by
   rw [<-ht,QE s 1 h,yD,QE (s*h+h) r,QE (s*h) h]
  have e3:s*(h*18446744073709551616+v+1)=s*h*18446744073709551616+s*v+s:=by
   rw [qC s (h*18446744073709551616+v) 1,qC s (h*18446744073709551616) v,<-qG s h,xC]
  rw [e1,QE r 1,yD] at hv;rw [e2,e3] at h6;omega
 ·exact hc
theorem WM (T E x y:Nat):T+E*y+E*18446744073709551616*x=T+(x*18446744073709551616+y)*E:=by
 rw [QE (x*18446744073709551616) y E,qS E y,qG x 18446744073709551616 E,qS 18446744073709551616 E,qS x];omega
theorem jp {Ld:List Nat}{m:Nat}(hp:zD 18446744073709551616 p)(hd:zD 18446744073709551616 Ld)(d:p.length=m+3)(a:Ld.length=m+2)
  (hh:18446744073709551616<=2*Ld.getD (m+1) 0) (c:dv 18446744073709551616 p<18446744073709551616*dv 18446744073709551616 Ld):
  vS (dv 18446744073709551616 p) (dv 18446744073709551616 Ld) (p.getD (m+2) 0*18446744073709551616+p.getD (m+1) 0) (Ld.getD (m+1) 0) (Ld.getD m 0) (18446744073709551616^m):=by
 have hM:0<18446744073709551616^m:=XH zg;have b1:=hd.getD zg (m+1);have b2:=hd.getD zg m;have c1:=hp.getD zg (m+2);have c2:=hp.getD zg (m+1);have d0:dv 18446744073709551616 Ld=dv 18446744073709551616 (Ld.take m)+(Ld.getD (m+1) 0*18446744073709551616+Ld.getD m 0)*18446744073709551616^m:=by
  have e:=vT 18446744073709551616 Ld (m+1);rw [qU zb,vT 18446744073709551616 Ld m,qP] at e;rw [e];exact WM _ _ _ _
 have l0:dv 18446744073709551616 (Ld.take m)<18446744073709551616^m:=by
  have:=vg (hd.take m);rwa [qB,a,xZ zb] at this
 have p0:dv 18446744073709551616 p=dv 18446744073709551616 (p.take (m+1))+(p.getD (m+2) 0*18446744073709551616+p.getD (m+1) 0)*(18446744073709551616*18446744073709551616^m):=by
  have e:=vT 18446744073709551616 p (m+2);rw [qU zb,vT 18446744073709551616 p (m+1),qP _ (m+1)] at e;rw [e,<-Nat.pow_succ'];exact WM _ _ _ _
 have l1:dv 18446744073709551616 (p.take (m+1))<18446744073709551616*18446744073709551616^m:=by
  have:=vg (hp.take (m+1));rwa [qB,d,xZ zb,Nat.pow_succ'] at this
 refine⟨hM,hh,b1,b2,zb,?_,zb,?_,c⟩
 ·rw [QE _ 1,yD];omega
 ·rw [QE _ 1,yD];omega
structure lq (p0 D:List Nat)(t i:Nat)(p:List Nat)(c b:Nat):Prop where
 len:p.length=p0.length
 dgs:zD 18446744073709551616 p
 carry:c<18446744073709551616
 lack:b<=1
 rest:p.drop i=p0.drop i
 sum:dv 18446744073709551616 (p.take i)+t*dv 18446744073709551616 (D.take i)=dv 18446744073709551616 (p0.take i)+18446744073709551616^i*(c+b)
theorem lq.start (D:List Nat)(t:Nat)(hd:zD 18446744073709551616 p0):lq p0 D t 0 p0 0 0:=⟨rfl,hd,zg,zg,rfl,by simp [dv]⟩
theorem lq.step {D:List Nat}{s d b':Nat}(h:lq p0 D t i p c b)(ht:t<18446744073709551616)(hD:zD 18446744073709551616 D)(hi:i<p0.length)(hs:s=D.getD i 0*t+c+0)(hd:d<18446744073709551616)(hb:b'<=1)
  (hx:d+s%18446744073709551616+b=p.getD i 0+18446744073709551616*b'):lq p0 D t (i+1) (p.set i d) (s / 18446744073709551616) b':=by
 have hw:=hD.getD zg i;refine⟨by simpa using h.len,h.dgs.set_ i hd,by rw [hs];exact aM hw ht h.carry zg,hb,by rw [iJ];exact ew h.rest,?_⟩;have e:=h.sum;have eg:=iD h.rest;have em:=XS s 18446744073709551616;rw [eg] at hx;rw [kj _ _ _ (by rw [h.len];exact hi),vA,qB,h.len,xZ zb,vT _ p0,vT _ D,qP,qC t,qG (18446744073709551616^i)];have e2:t*(18446744073709551616^i*D.getD i 0)=18446744073709551616^i*(D.getD i 0*t):=by rw [Nat.mul_left_comm,qS t]
 have e3:18446744073709551616^i*d+18446744073709551616^i*(D.getD i 0*t)+18446744073709551616^i*(c+b)=18446744073709551616^i*p0.getD i 0+18446744073709551616^i*(18446744073709551616*(s / 18446744073709551616+b')):=by
  rw [<-qC,<-qC,<-qC];refine congrArg _ ?_;rw [qC];omega
 rw [e2];omega
theorem lq.last {D:List Nat}{d b':Nat}(h:lq p0 D t i p c b)(hi:i+1=p0.length)(hD:D.length=i)(hd:d<18446744073709551616)(hb:b'<=1)
  (hx:d+c+b=p.getD i 0+18446744073709551616*b'):(p.set i d).length=p0.length/\zD 18446744073709551616 (p.set i d)/\dv 18446744073709551616 (p.set i d)+t*dv 18446744073709551616 D=dv 18446744073709551616 p0+18446744073709551616^p0.length*b':=by
 refine⟨by simpa using h.len,h.dgs.set_ i hd,?_⟩;have e:=h.sum;rw [iD h.rest] at hx;have f1:dv 18446744073709551616 (p.set i d)=dv 18446744073709551616 (p.take i)+18446744073709551616^i*d:=by
  have:=kj p i d (by rw [h.len];omega);rw [qU (by simp [h.len];omega)] at this;rw [this,vA,qB,h.len,xZ zb]
 have f2:dv 18446744073709551616 p0=dv 18446744073709551616 (p0.take i)+18446744073709551616^i*p0.getD i 0:=by
  have:=vT 18446744073709551616 p0 i;rwa [qU zb] at this
 rw [qU (l:=D) zb] at e;rw [f1,f2,<-hi,qP,qG];have e3:18446744073709551616^i*d+18446744073709551616^i*(c+b)=18446744073709551616^i*p0.getD i 0+18446744073709551616^i*(18446744073709551616*b'):=by
  rw [<-qC,<-qC];refine congrArg _ ?_;omega
 omega
theorem RR {P D t X E b':Nat}(ht:t=P / D)(hD:0<D)(hX:X<E)(e:X+t*D=P+E*b')(hb:b'<=1):b'=0/\X=P%D:=by
 have h1:=Nat.div_mul_le_self P D;have h2:=Nat.div_add_mod' P D;rw [ht] at e;rcases (show b'=0\/b'=1 by omega) with rfl|rfl
 ·exact⟨rfl,zb⟩
 ·omega
theorem PF {P D t X E b':Nat}(ht:t=P / D+1)(hD:0<D)(hP:P<E)(hX:X<E)(e:X+t*D=P+E*b')(hb:b'<=1):b'=1/\X+D=E+P%D:=by
 have h2:=Nat.div_add_mod' P D;have h3:=QH P hD;rw [ht,QE,yD] at e;rcases (show b'=0\/b'=1 by omega) with rfl|rfl
 ·omega
 ·exact⟨rfl,zb⟩
structure lm (p0 D:List Nat)(i:Nat)(p:List Nat)(c:Nat):Prop where
 len:p.length=p0.length
 dgs:zD 18446744073709551616 p
 carry:c<=1
 rest:p.drop i=p0.drop i
 sum:dv 18446744073709551616 (p.take i)+18446744073709551616^i*c=dv 18446744073709551616 (p0.take i)+dv 18446744073709551616 (D.take i)
theorem lm.start (D:List Nat)(hd:zD 18446744073709551616 p0):lm p0 D 0 p0 0:=⟨rfl,hd,zg,rfl,by simp [dv]⟩
theorem lm.step {D:List Nat}{s:Nat}(h:lm p0 D i p c)(hD:zD 18446744073709551616 D)(hi:i<p0.length)(hs:s=p.getD i 0+D.getD i 0+c):lm p0 D (i+1) (p.set i (s%18446744073709551616)) (s / 18446744073709551616):=by
 have hw:=hD.getD zg i;have hv:=h.dgs.getD zg i;have hc:=h.carry;refine⟨by simpa using h.len,h.dgs.set_ i (QH _ zg),zb,by rw [iJ];exact ew h.rest,?_⟩;have e:=h.sum;rw [iD h.rest] at hs;rw [kj _ _ _ (by rw [h.len];exact hi),vA,qB,h.len,xZ zb,vT _ p0,vT _ D,qP,qG,xE,<-qC,XS,hs,qC,qC];omega
theorem lm.last {D:List Nat}{s:Nat}(h:lm p0 D i p c)(hi:i+1=p0.length)(hD:D.length=i)(hs:s=p.getD i 0+0+c):
  (p.set i (s%18446744073709551616)).length=p0.length/\zD 18446744073709551616 (p.set i (s%18446744073709551616))/\dv 18446744073709551616 (p.set i (s%18446744073709551616))=(dv 18446744073709551616 p0+dv 18446744073709551616 D)%18446744073709551616^p0.length:=by
 have d:=h.dgs.set_ i (QH s (show 0<18446744073709551616 by decide));have a:(p.set i (s%18446744073709551616)).length=p0.length:=by simpa using h.len
 refine⟨a,d,?_⟩;have hv:=h.dgs.getD zg i;have hc:=h.carry;have e:=h.sum;rw [iD h.rest] at hs;have f1:dv 18446744073709551616 (p.set i (s%18446744073709551616))=dv 18446744073709551616 (p.take i)+18446744073709551616^i*(s%18446744073709551616):=by
  have:=kj p i (s%18446744073709551616) (by rw [h.len];omega);rw [qU (by rw [a];omega)] at this;rw [this,vA,qB,h.len,xZ zb]
 have f2:dv 18446744073709551616 p0=dv 18446744073709551616 (p0.take i)+18446744073709551616^i*p0.getD i 0:=by
  have:=vT 18446744073709551616 p0 i;rwa [qU zb] at this
 rw [qU (l:=D) zb] at e;have f3:dv 18446744073709551616 p0+dv 18446744073709551616 D=dv 18446744073709551616 (p.set i (s%18446744073709551616))+18446744073709551616^p0.length*(s / 18446744073709551616):=by
  rw [f1,f2,<-hi,qP,qG,xE (dv 18446744073709551616 (p.take i)),<-qC,XS,hs,xN,qC];omega
 have f4:=vg d;rw [a] at f4;rw [f3,XI,qO f4]
theorem Rw {E R:Nat}(h:X+D=E+R)(hR:R<D)(hX:X<E)(hDE:D<=E):(X+D)%E=R:=by
 rw [h,Nat.add_mod_left,qO zb]
structure og (X D m k n:Nat)(L Q:List Nat):Prop where
 len:L.length=m+n
 dgs:zD 18446744073709551616 L
 qlen:Q.length=n
 qdgs:zD 18446744073709551616 Q
 small:dv 18446744073709551616 (L.drop k)<D
 sum:dv 18446744073709551616 (Q.drop k)*D*18446744073709551616^k+dv 18446744073709551616 L=X
theorem og.cut (h:og X D m (k+1) n L Q)(hk:k<n)(hD:D<18446744073709551616^m):
  ∃A p C,L=A++p++C/\A.length=k/\p.length=m+1/\zD 18446744073709551616 p/\dv 18446744073709551616 p=dv 18446744073709551616 (L.drop k)/\dv 18446744073709551616 p<18446744073709551616*D/\dv 18446744073709551616 C=0:=by
 have hl:=h.len;have hd:=h.dgs;refine⟨L.take k,(L.drop k).take (m+1),(L.drop k).drop (m+1),by rw [xJ,YO,YO],by simp;omega,by simp;omega,(hd.drop k).take _,?_,?_,?_⟩
 all_goals
  have h1:=h.small
  have e1:dv 18446744073709551616 (L.drop (k+1))=dv 18446744073709551616 (L.drop k) / 18446744073709551616:=by
   have:=iM (b:=18446744073709551616) zg (hd.drop k) 1;rwa [List.drop_drop,Nat.pow_one] at this
  rw [e1] at h1
  have h2:dv 18446744073709551616 (L.drop k)<18446744073709551616*D:=zb
  have h3:dv 18446744073709551616 (L.drop k)<18446744073709551616^(m+1):=by
   rw [qP];omega
 ·rw [UG zg (hd.drop k),qO h3]
 ·rw [UG zg (hd.drop k),qO h3];exact h2
 ·rw [iM zg (hd.drop k),QL h3]
theorem og.step {A C p':List Nat}(h:og X D m (k+1) n (A++p++C) Q)(hA:A.length=k)(hp:p.length=m+1)(hC:dv 18446744073709551616 C=0)(hk:k<n)(hp':p'.length=m+1)(a:zD 18446744073709551616 p')
  (hv:dv 18446744073709551616 p'=dv 18446744073709551616 p%D) (hq:dv 18446744073709551616 p / D<18446744073709551616) (hD:0<D):og X D m k n (A++p'++C) (Q.set k (dv 18446744073709551616 p / D)):=by
 have hl:=h.len;have hd:=h.dgs;have d1:zD 18446744073709551616 A:=λd m=>hd d (by simp [m]);have d2:zD 18446744073709551616 C:=λd m=>hd d (by simp [m]);have e:=h.sum;rw [uO,uO,hC,yZ,xN] at e;refine⟨by simp at hl⊢;omega,(d1.append a).append d2,by simpa using h.qlen,h.qdgs.set_ k hq,?_,?_⟩
 ·rw [xJ,List.drop_append_of_le_length zb,xG zb,yK,uO,hC,yZ,xN,hv];exact QH _ hD
 ·rw [uO,uO,hC,yZ,xN,hv,V0 _ _ _ (by rw [h.qlen];exact hk),dv,<-e,hA];have e3:=Nat.div_add_mod' (dv 18446744073709551616 p) D;obtain⟨P,hP⟩:∃P,dv 18446744073709551616 p=P:=⟨_,rfl⟩;obtain⟨T,hT⟩:∃T,dv 18446744073709551616 (Q.drop (k+1))=T:=⟨_,rfl⟩;obtain⟨E,hE⟩:∃E,18446744073709551616^k=E:=⟨_,rfl⟩;rw [hP] at e3⊢;rw [qP,hE,hT];have f1:(P / D+18446744073709551616*T)*D*E=P / D*D*E+T*D*(E*18446744073709551616):=by
   rw [QE,QE];refine congrArg _ ?_;rw [qS 18446744073709551616 T,Nat.mul_right_comm T,qG (T*D),qS 18446744073709551616 E]
  have f2:E*P=E*(P / D*D)+E*(P%D):=by rw [<-qC,e3]
  rw [f1,f2,qS (P / D*D) E];omega
theorem og.done {L:List Nat}(h:og X D m 0 n L Q):dv 18446744073709551616 Q=X / D/\dv 18446744073709551616 L=X%D:=by
 have e:=h.sum;have h3:=h.small;rw [List.drop_zero] at h3;rw [List.drop_zero,XB,xC] at e;have hm:0<D:=zb;refine⟨?_,?_⟩
 ·rw [<-e,YG,Nat.add_mul_div_right _ _ hm,QL h3,xA]
 ·rw [<-e,YG,Nat.add_mul_mod_self_right,qO h3]
theorem og.start (hl:L.length=m+n)(hd:zD 18446744073709551616 L)(hv:dv 18446744073709551616 L=X)(hs:X / 18446744073709551616^n<D):og X D m n n L (List.replicate n 0):=by
 refine⟨hl,hd,zE,zD.zeros zg n,by rw [iM zg hd,hv];exact hs,?_⟩;rw [xG zE,hv];simp [dv]
