/- What this claim leans on. -/
import Derived.Test.YtipmllfnpldbdaaGreatDoorYBunN
set_option linter.unusedVariables false
set_option linter.unusedSimpArgs false
namespace Go.Proofs.YtipmllfnpldbdaaGreatDoor
open Go Go.RowKit
set_option maxHeartbeats 16000000
variable {L L0 Q p p0:List Nat}{D M N P U X a b c h i j m t v x y:Nat}
theorem oI (l:List Nat)(k d:Nat)(h:k<l.length):(l.set k d).take (k+1)=l.take k++[d]:=by
 rw [QJ (by simpa using h)];simp [YS];exact List.set_eq_of_length_le (by simp;omega)
theorem mI (l:List Nat)(k d:Nat):(l.set k d).drop (k+1)=l.drop (k+1):=by
 rw [List.drop_set,if_pos za]
theorem zC.set_ {l:List Nat}(h:zC b l)(k:Nat){d:Nat}(hd:d<b):zC b (l.set k d):=by
 intro e he;rcases XX he with h1|h1
 ·exact h e h1
 ·omega
theorem mL {l m:List Nat}{k:Nat}(h:l.drop k=m.drop k):l.getD k 0=m.getD k 0:=by
 have h1:=congrArg (λl=>l.getD 0 0) h;simpa [qQ,YY] using h1
theorem kV {l m:List Nat}{k:Nat}(h:l.drop k=m.drop k):l.drop (k+1)=m.drop (k+1):=by
 have h1:=congrArg (List.drop 1) h;rwa [List.drop_drop,List.drop_drop] at h1
structure rR (x a b k n:Nat)(L:List Nat)(c:Nat):Prop where
 len:L.length=n
 dgs:zC 18446744073709551616 L
 carry:c<18446744073709551616
 rest:L.drop k=(dg 18446744073709551616 x).drop k
 sum:dv 18446744073709551616 (L.take k)+18446744073709551616^k*c=x%18446744073709551616^k*a+b
theorem rR.start {a n:Nat}(hn:(dg 18446744073709551616 x).length=n)(hb:b<18446744073709551616):rR x a b 0 n (dg 18446744073709551616 x) b:=
 ⟨hn,vp zh x,hb,rfl,by simp [dv,xD]⟩
theorem iG {p q r s:Nat}(hp:p<18446744073709551616)(hq:q<18446744073709551616)(hr:r<18446744073709551616)(hs:s<18446744073709551616):(p*q+r+s) / 18446744073709551616<18446744073709551616:=by
 have h1:p*q<=18446744073709551615*18446744073709551615:=Nat.mul_le_mul za za;omega
theorem rR.get {k n:Nat}(h:rR x a b k n L c):L.getD k 0=wd x k:=by rw [mL h.rest,rM]
theorem rR.step {k n s:Nat}(h:rR x a b k n L c)(ha:a<18446744073709551616)(hk:k<n)(hs:s=wd x k*a+c+0):
  rR x a b (k+1) n (L.set k (s%18446744073709551616)) (s / 18446744073709551616):=by
 refine⟨by simpa using h.len,h.dgs.set_ k (QI _ zh),?_,by rw [mI];exact kV h.rest,?_⟩
 ·rw [hs];exact iG (xl x k) ha h.carry zh
 ·have e:=h.sum;rw [oI _ _ _ (by rw [h.len];exact hk),wB,QY,h.len,QO za,wM 18446744073709551616 x k,qN,qU,xR,<-qS,xA,hs];show _=(x%_+18446744073709551616^k*wd x k)*a+b;rw [xI,qS,QH,<-qU];omega
theorem rR.done {n:Nat}{L:List Nat}(h:rR x a b n n L c)(hn:(dg 18446744073709551616 x).length<=n):dv 18446744073709551616 (L++[c])=x*a+b:=by
 have e:=h.sum;rw [qV (by rw [h.len];exact qX _),qP (qJ (yx zh x) (qL zh hn))] at e;rw [wB,h.len,e]
structure wt (L0:List Nat)(y a i j N:Nat)(L:List Nat)(c:Nat):Prop where
 len:L.length=N
 dgs:zC 18446744073709551616 L
 carry:c<18446744073709551616
 rest:L.drop (i+j)=L0.drop (i+j)
 sum:dv 18446744073709551616 (L.take (i+j))+18446744073709551616^(i+j)*c=dv 18446744073709551616 (L0.take (i+j))+18446744073709551616^i*(a*(y%18446744073709551616^j))
theorem wt.start (y a i:Nat)(hn:L0.length=N)(hd:zC 18446744073709551616 L0):wt L0 y a i 0 N L0 0:=
 ⟨hn,hd,zh,rfl,by simp [xD]⟩
theorem wt.step {s:Nat}(h:wt L0 y a i j N L c)(ha:a<18446744073709551616)(hk:i+j<N)(hs:s=wd y j*a+L.getD (i+j) 0+c):
  wt L0 y a i (j+1) N (L.set (i+j) (s%18446744073709551616)) (s / 18446744073709551616):=by
 have hp:=h.dgs.getD zh (i+j);refine⟨by simpa using h.len,h.dgs.set_ _ (QI _ zh),?_,by rw [<-xR,mI];exact kV h.rest,?_⟩
 ·rw [hs];exact iG (xl y j) ha hp h.carry
 ·have e:=h.sum;have eg:=mL h.rest;rw [<-xR,oI _ _ _ (by rw [h.len];exact hk),wB,QY,h.len,QO za,wZ _ L0,<-eg,wM 18446744073709551616 y j,qN,qU,xR,<-qS,xA,hs];obtain⟨p,d⟩:∃p,L.getD (i+j) 0=p:=⟨_,rfl⟩;rw [d];show _=_+18446744073709551616^i*(a*(y%_+18446744073709551616^j*wd y j));rw [qS,qS,qS a,qS (18446744073709551616^i)];have e2:18446744073709551616^i*(a*(18446744073709551616^j*wd y j))=18446744073709551616^(i+j)*(wd y j*a):=by
   rw [xU,qU (18446744073709551616^i)];refine congrArg _ ?_;rw [Nat.mul_left_comm,qE a]
  rw [e2];omega
structure rq (x y i m N:Nat)(L:List Nat):Prop where
 len:L.length=N
 dgs:zC 18446744073709551616 L
 sum:dv 18446744073709551616 (L.take (i+m))=x%18446744073709551616^i*y
theorem rq.start (x y m N:Nat):rq x y 0 m N (List.replicate N 0):=by
 refine⟨zD,zC.zeros zh N,?_⟩;rw [List.take_replicate,mH,yX,xD,Nat.zero_mul]
theorem rq.step (h0:rq x y i m N L0)(h:wt L0 y (wd x i) i m N L c)(hy:(dg 18446744073709551616 y).length<=m)(hk:i+m<N):rq x y (i+1) m N (L.set (i+m) c):=by
 refine⟨by simpa using h.len,h.dgs.set_ _ h.carry,?_⟩;have e:=h.sum;rw [h0.sum,qP (qJ (yx zh y) (qL zh hy))] at e;rw [show i+1+m=i+m+1 from by omega,oI _ _ _ (by rw [h.len];exact hk),wB,QY,h.len,QO za,e,wM 18446744073709551616 x i,QH];show _=_+18446744073709551616^i*wd x i*y;rw [qU]
theorem rq.done {n:Nat}{L:List Nat}(h:rq x y n m (n+m) L)(hx:(dg 18446744073709551616 x).length<=n):dv 18446744073709551616 L=x*y:=by
 have e:=h.sum;rwa [qV (by rw [h.len];exact qX _),qP (qJ (yx zh x) (qL zh hx))] at e
theorem tS (p q r s:Nat):x5 (p:Int) (q:Int) (r:Int) (s:Int)=((p*q+r+s) / 18446744073709551616:Nat)/\vZ (p:Int) (q:Int) (r:Int) (s:Int)=((p*q+r+s)%18446744073709551616:Nat):=by
 unfold x5 vZ;constructor<;>simp
structure rp (x a k n:Nat)(L:List Nat)(r:Nat):Prop where
 len:L.length=n
 dgs:zC 18446744073709551616 L
 rest:r<a
 low:L.take k=(dg 18446744073709551616 x).take k
 sum:dv 18446744073709551616 (L.drop k)*a+r=x / 18446744073709551616^k
theorem rp.start {a n:Nat}(hn:(dg 18446744073709551616 x).length=n)(ha:a≠0):rp x a n n (dg 18446744073709551616 x) 0:=by
 refine⟨hn,vp zh x,za,rfl,?_⟩;have h:=yx (b:=18446744073709551616) zh x;rw [hn] at h;rw [QM za,xJ h];simp [dv]
theorem pJ (l:List Nat)(k d:Nat):(l.set k d).take k=l.take k:=by
 rw [YS];exact List.set_eq_of_length_le (by simp;omega)
theorem bV (l:List Nat)(k d:Nat)(h:k<l.length):(l.set k d).drop k=d::l.drop (k+1):=by
 rw [xS (by simpa using h),mI];simp
theorem Up {l m:List Nat}{k:Nat}(h:l.take (k+1)=m.take (k+1)):l.take k=m.take k:=by
 have h1:=congrArg (List.take k) h;rwa [List.take_take,List.take_take,QO za] at h1
theorem sO {l m:List Nat}{k:Nat}(h:l.take k=m.take k)(hj:j<k):l.getD j 0=m.getD j 0:=by
 have h1:=congrArg (λl=>l.getD j 0) h;simpa [qQ,yV,hj] using h1
theorem rp.get {k n r:Nat}(h:rp x a k n L r){j:Nat}(hj:j<k):L.getD j 0=wd x j:=by rw [sO h.low hj,rM]
theorem rp.step {k n r s:Nat}(h:rp x a (k+1) n L r)(hk:k<n)(hs:s=r*18446744073709551616+wd x k)(ha:a<18446744073709551616):rp x a k n (L.set k (s / a)) (s%a):=by
 have hw:=xl x k;have hr:=h.rest;have hq:s / a<18446744073709551616:=by
  refine(QU za).2 ?_;have:(r+1)*18446744073709551616<=a*18446744073709551616:=QK _ hr;rw [qE _ a];omega
 refine⟨by simpa using h.len,h.dgs.set_ k hq,QI _ za,by rw [pJ];exact Up h.low,?_⟩;have e:=h.sum;have e2:=mV 18446744073709551616 x k;have e3:=XJ s a;rw [bV _ _ _ (by rw [h.len];exact hk),dv,e2,<-e];unfold wd at hs;rw [QH,qS,qU,qE (s / a) a];omega
theorem rp.done {n r:Nat}{L:List Nat}(h:rp x a 0 n L r):dv 18446744073709551616 L=x / a/\r=x%a:=by
 have e:=h.sum;have h3:=h.rest;rw [yX,Nat.div_one,List.drop_zero] at e;have hm:0<a:=za;refine⟨?_,?_⟩
 ·rw [<-e,yA,Nat.add_mul_div_right _ _ hm,xJ h3,xG]
 ·rw [<-e,yA,Nat.add_mul_mod_self_right,qP h3]
structure wJ (P D U h v M:Nat):Prop where
 hM:0<M
 hh:18446744073709551616<=2*h
 hb:h<18446744073709551616
 vb:v<18446744073709551616
 D0:(h*18446744073709551616+v)*M<=D
 D1:D<(h*18446744073709551616+v+1)*M
 P0:U*(18446744073709551616*M)<=P
 P1:P<(U+1)*(18446744073709551616*M)
 lt:P<18446744073709551616*D
theorem wJ.Dpos (H:wJ P D U h v M):0<D:=by
 rcases QS D with e|e
 ·have:=H.lt;rw [e] at this;omega
 ·exact e
theorem wJ.q (H:wJ P D U h v M):P / D*D<=P/\P<(P / D+1)*D/\P / D<18446744073709551616:=by
 refine⟨Nat.div_mul_le_self P D,?_,(QU H.Dpos).2 (by have:=H.lt;omega)⟩;have:=Nat.lt_div_mul_add (a:=P) H.Dpos;rw [QH,XU];exact this
theorem wJ.Dh (H:wJ P D U h v M):h*(18446744073709551616*M)<=D/\D<=(h+1)*(18446744073709551616*M):=by
 have h0:=H.D0;have h1:=H.D1;constructor
 ·rw [<-qU];exact qC (QK M (Nat.le_add_right _ _)) h0
 ·rw [<-qU];refine qC (yY h1) (QK M ?_);have:=H.vb;rw [QH];omega
theorem wJ.top (H:wJ P D U h v M):U<(h+1)*18446744073709551616:=by
 have h0:=H.P0;have h1:=H.lt;have h2:=H.Dh.2;have h3:18446744073709551616*D<=18446744073709551616*((h+1)*(18446744073709551616*M)):=QG _ h2;have h4:U*(18446744073709551616*M)<(h+1)*18446744073709551616*(18446744073709551616*M):=by
  rw [qE (h+1),qU];omega
 exact XD h4
theorem wJ.le (H:wJ P D U h v M):P / D*h<=U:=by
 obtain⟨h0,_,_⟩:=H.q;have h1:=H.P1;have h2:P / D*(h*(18446744073709551616*M))<=P / D*D:=QG _ H.Dh.1;rw [<-qU] at h2;have h3:P / D*h*(18446744073709551616*M)<(U+1)*(18446744073709551616*M):=za;have:=XD h3;omega
theorem wJ.two (H:wJ P D U h v M)(ht:t*h<=U)(tb:t<18446744073709551616):t<=P / D+2:=by
 obtain⟨_,h1,_⟩:=H.q;obtain⟨q,hq⟩:∃q,P / D=q:=⟨_,rfl⟩;rw [hq] at h1⊢;have h2:(q+1)*D<=(q+1)*((h+1)*(18446744073709551616*M)):=QG _ H.Dh.2;have h3:t*h*(18446744073709551616*M)<=U*(18446744073709551616*M):=QK _ ht;have h4:=H.P0;rw [<-qU] at h2;have h5:t*h*(18446744073709551616*M)<(q+1)*(h+1)*(18446744073709551616*M):=za;have h6:=XD h5;have h7:=H.hh;rcases xC (q+2) t with hc|hc
 ·obtain⟨s,rfl⟩:∃s,t=q+1+s:=⟨t - (q+1),za⟩;have h8:2<=s:=za;rw [QH (q+1) s h,qS (q+1) h 1,xO] at h6;have h9:2*h<=s*h:=QK _ h8;omega
 ·exact hc
theorem wJ.dec {t r:Nat}(H:wJ P D U h v M)(ht:t*h+r=U)(hv:(r+1)*18446744073709551616<=t*v):P / D+1<=t:=by
 have h1:=H.P1;have h2:t*((h*18446744073709551616+v)*M)<=t*D:=QG _ H.D0;have h3:(U+1)*18446744073709551616<=t*(h*18446744073709551616+v):=by
  rw [qS t (h*18446744073709551616) v,<-qU t h,<-ht];have:(t*h+r+1)*18446744073709551616=t*h*18446744073709551616+(r+1)*18446744073709551616:=by rw [xR (t*h) r 1,QH (t*h) (r+1)]
  rw [this];exact YB hv _
 have h4:(U+1)*18446744073709551616*M<=t*(h*18446744073709551616+v)*M:=QK _ h3;rw [qU (U+1)] at h4;rw [<-qU t] at h2;have h5:P<t*D:=za;exact(QU H.Dpos).2 h5
theorem wJ.one {t r:Nat}(H:wJ P D U h v M)(ht:t*h+r=U)(tb:t<18446744073709551616)(hv:t*v<(r+1)*18446744073709551616):t<=P / D+1:=by
 obtain⟨_,h1,_⟩:=H.q;obtain⟨q,hq⟩:∃q,P / D=q:=⟨_,rfl⟩;rw [hq] at h1⊢;rcases xC (q+1) t with hc|hc
 ·obtain⟨s,rfl⟩:∃s,t=s+1:=⟨t - 1,za⟩;have h2:(q+1)*D<=s*D:=QK _ za;have h3:s*D<=s*((h*18446744073709551616+v+1)*M):=QG _ (yY H.D1);have h4:=H.P0;rw [<-qU] at h3 h4;have h5:U*18446744073709551616*M<s*(h*18446744073709551616+v+1)*M:=za;have h6:=XD h5;have h7:=H.hh;have e1:(s+1)*v=s*v+v:=by rw [QH,XU]
  have e2:U*18446744073709551616=s*h*18446744073709551616+h*18446744073709551616+r*18446744073709551616:=by
   rw [<-ht,QH s 1 h,XU,QH (s*h+h) r,QH (s*h) h]
  have e3:s*(h*18446744073709551616+v+1)=s*h*18446744073709551616+s*v+s:=by
   rw [qS s (h*18446744073709551616+v) 1,qS s (h*18446744073709551616) v,<-qU s h,xO]
  rw [e1,QH r 1,XU] at hv;rw [e2,e3] at h6;omega
 ·exact hc
theorem cR (T E x y:Nat):T+E*y+E*18446744073709551616*x=T+(x*18446744073709551616+y)*E:=by
 rw [QH (x*18446744073709551616) y E,qE E y,qU x 18446744073709551616 E,qE 18446744073709551616 E,qE x];omega
theorem nH {Ld:List Nat}{m:Nat}(hp:zC 18446744073709551616 p)(hd:zC 18446744073709551616 Ld)(g:p.length=m+3)(a:Ld.length=m+2)
  (hh:18446744073709551616<=2*Ld.getD (m+1) 0) (d:dv 18446744073709551616 p<18446744073709551616*dv 18446744073709551616 Ld):
  wJ (dv 18446744073709551616 p) (dv 18446744073709551616 Ld) (p.getD (m+2) 0*18446744073709551616+p.getD (m+1) 0) (Ld.getD (m+1) 0) (Ld.getD m 0) (18446744073709551616^m):=by
 have hM:0<18446744073709551616^m:=XM zh;have b1:=hd.getD zh (m+1);have b2:=hd.getD zh m;have c1:=hp.getD zh (m+2);have c2:=hp.getD zh (m+1);have d0:dv 18446744073709551616 Ld=dv 18446744073709551616 (Ld.take m)+(Ld.getD (m+1) 0*18446744073709551616+Ld.getD m 0)*18446744073709551616^m:=by
  have e:=wZ 18446744073709551616 Ld (m+1);rw [qV za,wZ 18446744073709551616 Ld m,qN] at e;rw [e];exact cR _ _ _ _
 have l0:dv 18446744073709551616 (Ld.take m)<18446744073709551616^m:=by
  have:=wh (hd.take m);rwa [QY,a,QO za] at this
 have p0:dv 18446744073709551616 p=dv 18446744073709551616 (p.take (m+1))+(p.getD (m+2) 0*18446744073709551616+p.getD (m+1) 0)*(18446744073709551616*18446744073709551616^m):=by
  have e:=wZ 18446744073709551616 p (m+2);rw [qV za,wZ 18446744073709551616 p (m+1),qN _ (m+1)] at e;rw [e,<-Nat.pow_succ'];exact cR _ _ _ _
 have l1:dv 18446744073709551616 (p.take (m+1))<18446744073709551616*18446744073709551616^m:=by
  have:=wh (hp.take (m+1));rwa [QY,g,QO za,Nat.pow_succ'] at this
 refine⟨hM,hh,b1,b2,za,?_,za,?_,d⟩
 ·rw [QH _ 1,XU];omega
 ·rw [QH _ 1,XU];omega
structure p9 (p0 D:List Nat)(t i:Nat)(p:List Nat)(c b:Nat):Prop where
 len:p.length=p0.length
 dgs:zC 18446744073709551616 p
 carry:c<18446744073709551616
 lack:b<=1
 rest:p.drop i=p0.drop i
 sum:dv 18446744073709551616 (p.take i)+t*dv 18446744073709551616 (D.take i)=dv 18446744073709551616 (p0.take i)+18446744073709551616^i*(c+b)
theorem p9.start (D:List Nat)(t:Nat)(hd:zC 18446744073709551616 p0):p9 p0 D t 0 p0 0 0:=⟨rfl,hd,zh,zh,rfl,by simp [dv]⟩
theorem p9.step {D p:List Nat}{s d b':Nat}(h:p9 p0 D t i p c b)(ht:t<18446744073709551616)(hD:zC 18446744073709551616 D)(hi:i<p0.length)(hs:s=D.getD i 0*t+c+0)(hd:d<18446744073709551616)(hb:b'<=1)
  (hx:d+s%18446744073709551616+b=p.getD i 0+18446744073709551616*b'):p9 p0 D t (i+1) (p.set i d) (s / 18446744073709551616) b':=by
 have hw:=hD.getD zh i;refine⟨by simpa using h.len,h.dgs.set_ i hd,by rw [hs];exact iG hw ht h.carry zh,hb,by rw [mI];exact kV h.rest,?_⟩;have e:=h.sum;have eg:=mL h.rest;have em:=xA s 18446744073709551616;rw [eg] at hx;rw [oI _ _ _ (by rw [h.len];exact hi),wB,QY,h.len,QO za,wZ _ p0,wZ _ D,qN,qS t,qU (18446744073709551616^i)];have e2:t*(18446744073709551616^i*D.getD i 0)=18446744073709551616^i*(D.getD i 0*t):=by rw [Nat.mul_left_comm,qE t]
 have e3:18446744073709551616^i*d+18446744073709551616^i*(D.getD i 0*t)+18446744073709551616^i*(c+b)=18446744073709551616^i*p0.getD i 0+18446744073709551616^i*(18446744073709551616*(s / 18446744073709551616+b')):=by
  rw [<-qS,<-qS,<-qS];refine congrArg _ ?_;rw [qS];omega
 rw [e2];omega
theorem p9.last {D:List Nat}{d b':Nat}(h:p9 p0 D t i p c b)(hi:i+1=p0.length)(hD:D.length=i)(hd:d<18446744073709551616)(hb:b'<=1)
  (hx:d+c+b=p.getD i 0+18446744073709551616*b'):(p.set i d).length=p0.length/\zC 18446744073709551616 (p.set i d)/\dv 18446744073709551616 (p.set i d)+t*dv 18446744073709551616 D=dv 18446744073709551616 p0+18446744073709551616^p0.length*b':=by
 refine⟨by simpa using h.len,h.dgs.set_ i hd,?_⟩;have e:=h.sum;rw [mL h.rest] at hx;have f1:dv 18446744073709551616 (p.set i d)=dv 18446744073709551616 (p.take i)+18446744073709551616^i*d:=by
  have:=oI p i d (by rw [h.len];omega);rw [qV (by simp [h.len];omega)] at this;rw [this,wB,QY,h.len,QO za]
 have f2:dv 18446744073709551616 p0=dv 18446744073709551616 (p0.take i)+18446744073709551616^i*p0.getD i 0:=by
  have:=wZ 18446744073709551616 p0 i;rwa [qV za] at this
 rw [qV (l:=D) za] at e;rw [f1,f2,<-hi,qN,qU];have e3:18446744073709551616^i*d+18446744073709551616^i*(c+b)=18446744073709551616^i*p0.getD i 0+18446744073709551616^i*(18446744073709551616*b'):=by
  rw [<-qS,<-qS];refine congrArg _ ?_;omega
 omega
theorem WE {P D t X E b':Nat}(ht:t=P / D)(hD:0<D)(hX:X<E)(e:X+t*D=P+E*b')(hb:b'<=1):b'=0/\X=P%D:=by
 have h1:=Nat.div_mul_le_self P D;have h2:=Nat.div_add_mod' P D;rw [ht] at e;rcases (show b'=0\/b'=1 by omega) with rfl|rfl
 ·exact⟨rfl,za⟩
 ·omega
theorem Uq {P D t X E b':Nat}(ht:t=P / D+1)(hD:0<D)(hP:P<E)(hX:X<E)(e:X+t*D=P+E*b')(hb:b'<=1):b'=1/\X+D=E+P%D:=by
 have h2:=Nat.div_add_mod' P D;have h3:=QI P hD;rw [ht,QH,XU] at e;rcases (show b'=0\/b'=1 by omega) with rfl|rfl
 ·omega
 ·exact⟨rfl,za⟩
structure oc (p0 D:List Nat)(i:Nat)(p:List Nat)(c:Nat):Prop where
 len:p.length=p0.length
 dgs:zC 18446744073709551616 p
 carry:c<=1
 rest:p.drop i=p0.drop i
 sum:dv 18446744073709551616 (p.take i)+18446744073709551616^i*c=dv 18446744073709551616 (p0.take i)+dv 18446744073709551616 (D.take i)
theorem oc.start (D:List Nat)(hd:zC 18446744073709551616 p0):oc p0 D 0 p0 0:=⟨rfl,hd,zh,rfl,by simp [dv]⟩
theorem oc.step {D p:List Nat}{s:Nat}(h:oc p0 D i p c)(hD:zC 18446744073709551616 D)(hi:i<p0.length)(hs:s=p.getD i 0+D.getD i 0+c):oc p0 D (i+1) (p.set i (s%18446744073709551616)) (s / 18446744073709551616):=by
 have hw:=hD.getD zh i;have hv:=h.dgs.getD zh i;have hc:=h.carry;refine⟨by simpa using h.len,h.dgs.set_ i (QI _ zh),za,by rw [mI];exact kV h.rest,?_⟩;have e:=h.sum;rw [mL h.rest] at hs;rw [oI _ _ _ (by rw [h.len];exact hi),wB,QY,h.len,QO za,wZ _ p0,wZ _ D,qN,qU,xR,<-qS,xA,hs,qS,qS];omega
theorem oc.last {D:List Nat}{s:Nat}(h:oc p0 D i p c)(hi:i+1=p0.length)(hD:D.length=i)(hs:s=p.getD i 0+0+c):
  (p.set i (s%18446744073709551616)).length=p0.length/\zC 18446744073709551616 (p.set i (s%18446744073709551616))/\dv 18446744073709551616 (p.set i (s%18446744073709551616))=(dv 18446744073709551616 p0+dv 18446744073709551616 D)%18446744073709551616^p0.length:=by
 have d:=h.dgs.set_ i (QI s (show 0<18446744073709551616 by decide));have a:(p.set i (s%18446744073709551616)).length=p0.length:=by simpa using h.len
 refine⟨a,d,?_⟩;have hv:=h.dgs.getD zh i;have hc:=h.carry;have e:=h.sum;rw [mL h.rest] at hs;have f1:dv 18446744073709551616 (p.set i (s%18446744073709551616))=dv 18446744073709551616 (p.take i)+18446744073709551616^i*(s%18446744073709551616):=by
  have:=oI p i (s%18446744073709551616) (by rw [h.len];omega);rw [qV (by rw [a];omega)] at this;rw [this,wB,QY,h.len,QO za]
 have f2:dv 18446744073709551616 p0=dv 18446744073709551616 (p0.take i)+18446744073709551616^i*p0.getD i 0:=by
  have:=wZ 18446744073709551616 p0 i;rwa [qV za] at this
 rw [qV (l:=D) za] at e;have f3:dv 18446744073709551616 p0+dv 18446744073709551616 D=dv 18446744073709551616 (p.set i (s%18446744073709551616))+18446744073709551616^p0.length*(s / 18446744073709551616):=by
  rw [f1,f2,<-hi,qN,qU,xR (dv 18446744073709551616 (p.take i)),<-qS,xA,hs,xI,qS];omega
 have f4:=wh d;rw [a] at f4;rw [f3,XQ,qP f4]
theorem Xw {E R:Nat}(h:X+D=E+R)(hR:R<D)(hX:X<E)(hDE:D<=E):(X+D)%E=R:=by
 rw [h,Nat.add_mod_left,qP za]
structure rn (X D m k n:Nat)(L Q:List Nat):Prop where
 len:L.length=m+n
 dgs:zC 18446744073709551616 L
 qlen:Q.length=n
 qdgs:zC 18446744073709551616 Q
 small:dv 18446744073709551616 (L.drop k)<D
 sum:dv 18446744073709551616 (Q.drop k)*D*18446744073709551616^k+dv 18446744073709551616 L=X
theorem rn.cut {k n:Nat}(h:rn X D m (k+1) n L Q)(hk:k<n)(hD:D<18446744073709551616^m):
  ∃A p C,L=A++p++C/\A.length=k/\p.length=m+1/\zC 18446744073709551616 p/\dv 18446744073709551616 p=dv 18446744073709551616 (L.drop k)/\dv 18446744073709551616 p<18446744073709551616*D/\dv 18446744073709551616 C=0:=by
 have hl:=h.len;have hd:=h.dgs;refine⟨L.take k,(L.drop k).take (m+1),(L.drop k).drop (m+1),by rw [xX,YU,YU],by simp;omega,by simp;omega,(hd.drop k).take _,?_,?_,?_⟩
 all_goals
  have h1:=h.small
  have e1:dv 18446744073709551616 (L.drop (k+1))=dv 18446744073709551616 (L.drop k) / 18446744073709551616:=by
   have:=mP (b:=18446744073709551616) zh (hd.drop k) 1;rwa [List.drop_drop,Nat.pow_one] at this
  rw [e1] at h1
  have h2:dv 18446744073709551616 (L.drop k)<18446744073709551616*D:=za
  have h3:dv 18446744073709551616 (L.drop k)<18446744073709551616^(m+1):=by
   rw [qN];omega
 ·rw [aY zh (hd.drop k),qP h3]
 ·rw [aY zh (hd.drop k),qP h3];exact h2
 ·rw [mP zh (hd.drop k),xJ h3]
theorem rn.step {k n:Nat}{A p C p':List Nat}(h:rn X D m (k+1) n (A++p++C) Q)(hA:A.length=k)(hp:p.length=m+1)(hC:dv 18446744073709551616 C=0)(hk:k<n)(hp':p'.length=m+1)(a:zC 18446744073709551616 p')
  (hv:dv 18446744073709551616 p'=dv 18446744073709551616 p%D) (hq:dv 18446744073709551616 p / D<18446744073709551616) (hD:0<D):rn X D m k n (A++p'++C) (Q.set k (dv 18446744073709551616 p / D)):=by
 have hl:=h.len;have hd:=h.dgs;have d1:zC 18446744073709551616 A:=λd m=>hd d (by simp [m]);have d2:zC 18446744073709551616 C:=λd m=>hd d (by simp [m]);have e:=h.sum;rw [vJ,vJ,hC,XC,xI] at e;refine⟨by simp at hl⊢;omega,(d1.append a).append d2,by simpa using h.qlen,h.qdgs.set_ k hq,?_,?_⟩
 ·rw [xX,List.drop_append_of_le_length za,QM za,XR,vJ,hC,XC,xI,hv];exact QI _ hD
 ·rw [vJ,vJ,hC,XC,xI,hv,bV _ _ _ (by rw [h.qlen];exact hk),dv,<-e,hA];have e3:=Nat.div_add_mod' (dv 18446744073709551616 p) D;obtain⟨P,hP⟩:∃P,dv 18446744073709551616 p=P:=⟨_,rfl⟩;obtain⟨T,hT⟩:∃T,dv 18446744073709551616 (Q.drop (k+1))=T:=⟨_,rfl⟩;obtain⟨E,hE⟩:∃E,18446744073709551616^k=E:=⟨_,rfl⟩;rw [hP] at e3⊢;rw [qN,hE,hT];have f1:(P / D+18446744073709551616*T)*D*E=P / D*D*E+T*D*(E*18446744073709551616):=by
   rw [QH,QH];refine congrArg _ ?_;rw [qE 18446744073709551616 T,Nat.mul_right_comm T,qU (T*D),qE 18446744073709551616 E]
  have f2:E*P=E*(P / D*D)+E*(P%D):=by rw [<-qS,e3]
  rw [f1,f2,qE (P / D*D) E];omega
theorem rn.done {n:Nat}{L:List Nat}(h:rn X D m 0 n L Q):dv 18446744073709551616 Q=X / D/\dv 18446744073709551616 L=X%D:=by
 have e:=h.sum;have h3:=h.small;rw [List.drop_zero] at h3;rw [List.drop_zero,yX,xO] at e;have hm:0<D:=za;refine⟨?_,?_⟩
 ·rw [<-e,yA,Nat.add_mul_div_right _ _ hm,xJ h3,xG]
 ·rw [<-e,yA,Nat.add_mul_mod_self_right,qP h3]
theorem rn.start {n:Nat}(hl:L.length=m+n)(hd:zC 18446744073709551616 L)(hv:dv 18446744073709551616 L=X)(hs:X / 18446744073709551616^n<D):rn X D m n n L (List.replicate n 0):=by
 refine⟨hl,hd,zD,zC.zeros zh n,by rw [mP zh hd,hv];exact hs,?_⟩;rw [QM zD,hv];simp [dv]
