/- What this claim leans on. -/
import Derived.Test.YtkcjgcflloldoaaGreatDoorPBunN
set_option linter.unusedVariables false
set_option linter.unusedSimpArgs false
namespace Go.Proofs.YtkcjgcflloldoaaGreatDoor
open Go Go.RowKit
set_option maxHeartbeats 16000000
variable {L L0 Q p p0:List Nat}{D M N P U X a b c h i j k m n t v x y:Nat}
theorem jr (l:List Nat)(k d:Nat)(h:k<l.length):(l.set k d).take (k+1)=l.take k++[d]:=by
 rw [qC (by simpa using h)];simp [YR];exact List.set_eq_of_length_le (by simp;omega)
theorem fb (l:List Nat)(k d:Nat):(l.set k d).drop (k+1)=l.drop (k+1):=by
 rw [List.drop_set,if_pos za]
theorem zH.set_ {l:List Nat}(h:zH b l)(k:Nat){d:Nat}(hd:d<b):zH b (l.set k d):=by
 intro e he;rcases xL he with h1|h1
 ·exact h e h1
 ·omega
theorem fo {l m:List Nat}(h:l.drop k=m.drop k):l.getD k 0=m.getD k 0:=by
 have h1:=congrArg (λl=>l.getD 0 0) h;simpa [qQ,yW] using h1
theorem aP {l m:List Nat}(h:l.drop k=m.drop k):l.drop (k+1)=m.drop (k+1):=by
 have h1:=congrArg (List.drop 1) h;rwa [List.drop_drop,List.drop_drop] at h1
structure nJ (x a b k n:Nat)(L:List Nat)(c:Nat):Prop where
 len:L.length=n
 dgs:zH 18446744073709551616 L
 carry:c<18446744073709551616
 rest:L.drop k=(dg 18446744073709551616 x).drop k
 sum:dv 18446744073709551616 (L.take k)+18446744073709551616^k*c=x%18446744073709551616^k*a+b
theorem nJ.start {a:Nat}(hn:(dg 18446744073709551616 x).length=n)(hb:b<18446744073709551616):nJ x a b 0 n (dg 18446744073709551616 x) b:=
 ⟨hn,uA zf x,hb,rfl,by simp [dv,XU]⟩
theorem Xc {p q r s:Nat}(hp:p<18446744073709551616)(hq:q<18446744073709551616)(hr:r<18446744073709551616)(hs:s<18446744073709551616):(p*q+r+s) / 18446744073709551616<18446744073709551616:=by
 have h1:p*q<=18446744073709551615*18446744073709551615:=Nat.mul_le_mul za za;omega
theorem nJ.get (h:nJ x a b k n L c):L.getD k 0=wd x k:=by rw [fo h.rest,nD]
theorem nJ.step {s:Nat}(h:nJ x a b k n L c)(ha:a<18446744073709551616)(hk:k<n)(hs:s=wd x k*a+c+0):
  nJ x a b (k+1) n (L.set k (s%18446744073709551616)) (s / 18446744073709551616):=by
 refine⟨by simpa using h.len,h.dgs.set_ k (QA _ zf),?_,by rw [fb];exact aP h.rest,?_⟩
 ·rw [hs];exact Xc (wX x k) ha h.carry zf
 ·have e:=h.sum;rw [jr _ _ _ (by rw [h.len];exact hk),vR,qL,h.len,xG za,uh 18446744073709551616 x k,qO,qH,xH,<-qM,XC,hs];show _=(x%_+18446744073709551616^k*wd x k)*a+b;rw [XX,qM,QN,<-qH];omega
theorem nJ.done {L:List Nat}(h:nJ x a b n n L c)(hn:(dg 18446744073709551616 x).length<=n):dv 18446744073709551616 (L++[c])=x*a+b:=by
 have e:=h.sum;rw [qV (by rw [h.len];exact qX _),qS (qJ (yv zf x) (qG zf hn))] at e;rw [vR,h.len,e]
structure ub (L0:List Nat)(y a i j N:Nat)(L:List Nat)(c:Nat):Prop where
 len:L.length=N
 dgs:zH 18446744073709551616 L
 carry:c<18446744073709551616
 rest:L.drop (i+j)=L0.drop (i+j)
 sum:dv 18446744073709551616 (L.take (i+j))+18446744073709551616^(i+j)*c=dv 18446744073709551616 (L0.take (i+j))+18446744073709551616^i*(a*(y%18446744073709551616^j))
theorem ub.start (y a i:Nat)(hn:L0.length=N)(hd:zH 18446744073709551616 L0):ub L0 y a i 0 N L0 0:=
 ⟨hn,hd,zf,rfl,by simp [XU]⟩
theorem ub.step {s:Nat}(h:ub L0 y a i j N L c)(ha:a<18446744073709551616)(hk:i+j<N)(hs:s=wd y j*a+L.getD (i+j) 0+c):
  ub L0 y a i (j+1) N (L.set (i+j) (s%18446744073709551616)) (s / 18446744073709551616):=by
 have hp:=h.dgs.getD zf (i+j);refine⟨by simpa using h.len,h.dgs.set_ _ (QA _ zf),?_,by rw [<-xH,fb];exact aP h.rest,?_⟩
 ·rw [hs];exact Xc (wX y j) ha hp h.carry
 ·have e:=h.sum;have eg:=fo h.rest;rw [<-xH,jr _ _ _ (by rw [h.len];exact hk),vR,qL,h.len,xG za,uv _ L0,<-eg,uh 18446744073709551616 y j,qO,qH,xH,<-qM,XC,hs];obtain⟨p,d⟩:∃p,L.getD (i+j) 0=p:=⟨_,rfl⟩;rw [d];show _=_+18446744073709551616^i*(a*(y%_+18446744073709551616^j*wd y j));rw [qM,qM,qM a,qM (18446744073709551616^i)];have e2:18446744073709551616^i*(a*(18446744073709551616^j*wd y j))=18446744073709551616^(i+j)*(wd y j*a):=by
   rw [xU,qH (18446744073709551616^i)];refine congrArg _ ?_;rw [Nat.mul_left_comm,qB a]
  rw [e2];omega
structure ni (x y i m N:Nat)(L:List Nat):Prop where
 len:L.length=N
 dgs:zH 18446744073709551616 L
 sum:dv 18446744073709551616 (L.take (i+m))=x%18446744073709551616^i*y
theorem ni.start (x y m N:Nat):ni x y 0 m N (List.replicate N 0):=by
 refine⟨zG,zH.zeros zf N,?_⟩;rw [List.take_replicate,iK,XM,XU,Nat.zero_mul]
theorem ni.step (h0:ni x y i m N L0)(h:ub L0 y (wd x i) i m N L c)(hy:(dg 18446744073709551616 y).length<=m)(hk:i+m<N):ni x y (i+1) m N (L.set (i+m) c):=by
 refine⟨by simpa using h.len,h.dgs.set_ _ h.carry,?_⟩;have e:=h.sum;rw [h0.sum,qS (qJ (yv zf y) (qG zf hy))] at e;rw [show i+1+m=i+m+1 from by omega,jr _ _ _ (by rw [h.len];exact hk),vR,qL,h.len,xG za,e,uh 18446744073709551616 x i,QN];show _=_+18446744073709551616^i*wd x i*y;rw [qH]
theorem ni.done {L:List Nat}(h:ni x y n m (n+m) L)(hx:(dg 18446744073709551616 x).length<=n):dv 18446744073709551616 L=x*y:=by
 have e:=h.sum;rwa [qV (by rw [h.len];exact qX _),qS (qJ (yv zf x) (qG zf hx))] at e
theorem py (p q r s:Nat):vH (p:Int) (q:Int) (r:Int) (s:Int)=((p*q+r+s) / 18446744073709551616:Nat)/\sx (p:Int) (q:Int) (r:Int) (s:Int)=((p*q+r+s)%18446744073709551616:Nat):=by
 unfold vH sx;constructor<;>simp
structure nh (x a k n:Nat)(L:List Nat)(r:Nat):Prop where
 len:L.length=n
 dgs:zH 18446744073709551616 L
 rest:r<a
 low:L.take k=(dg 18446744073709551616 x).take k
 sum:dv 18446744073709551616 (L.drop k)*a+r=x / 18446744073709551616^k
theorem nh.start {a:Nat}(hn:(dg 18446744073709551616 x).length=n)(ha:a≠0):nh x a n n (dg 18446744073709551616 x) 0:=by
 refine⟨hn,uA zf x,za,rfl,?_⟩;have h:=yv (b:=18446744073709551616) zf x;rw [hn] at h;rw [xA za,QB h];simp [dv]
theorem lA (l:List Nat)(k d:Nat):(l.set k d).take k=l.take k:=by
 rw [YR];exact List.set_eq_of_length_le (by simp;omega)
theorem TH (l:List Nat)(k d:Nat)(h:k<l.length):(l.set k d).drop k=d::l.drop (k+1):=by
 rw [yE (by simpa using h),fb];simp
theorem NZ {l m:List Nat}(h:l.take (k+1)=m.take (k+1)):l.take k=m.take k:=by
 have h1:=congrArg (List.take k) h;rwa [List.take_take,List.take_take,xG za] at h1
theorem oE {l m:List Nat}(h:l.take k=m.take k)(hj:j<k):l.getD j 0=m.getD j 0:=by
 have h1:=congrArg (λl=>l.getD j 0) h;simpa [qQ,xI,hj] using h1
theorem nh.get {r:Nat}(h:nh x a k n L r){j:Nat}(hj:j<k):L.getD j 0=wd x j:=by rw [oE h.low hj,nD]
theorem nh.step {r s:Nat}(h:nh x a (k+1) n L r)(hk:k<n)(hs:s=r*18446744073709551616+wd x k)(ha:a<18446744073709551616):nh x a k n (L.set k (s / a)) (s%a):=by
 have hw:=wX x k;have hr:=h.rest;have hq:s / a<18446744073709551616:=by
  refine(QM za).2 ?_;have:(r+1)*18446744073709551616<=a*18446744073709551616:=qE _ hr;rw [qB _ a];omega
 refine⟨by simpa using h.len,h.dgs.set_ k hq,QA _ za,by rw [lA];exact NZ h.low,?_⟩;have e:=h.sum;have e2:=gi 18446744073709551616 x k;have e3:=XL s a;rw [TH _ _ _ (by rw [h.len];exact hk),dv,e2,<-e];unfold wd at hs;rw [QN,qM,qH,qB (s / a) a];omega
theorem nh.done {r:Nat}{L:List Nat}(h:nh x a 0 n L r):dv 18446744073709551616 L=x / a/\r=x%a:=by
 have e:=h.sum;have h3:=h.rest;rw [XM,Nat.div_one,List.drop_zero] at e;have hm:0<a:=za;refine⟨?_,?_⟩
 ·rw [<-e,YO,Nat.add_mul_div_right _ _ hm,QB h3,xR]
 ·rw [<-e,YO,Nat.add_mul_mod_self_right,qS h3]
structure un (P D U h v M:Nat):Prop where
 hM:0<M
 hh:18446744073709551616<=2*h
 hb:h<18446744073709551616
 vb:v<18446744073709551616
 D0:(h*18446744073709551616+v)*M<=D
 D1:D<(h*18446744073709551616+v+1)*M
 P0:U*(18446744073709551616*M)<=P
 P1:P<(U+1)*(18446744073709551616*M)
 lt:P<18446744073709551616*D
theorem un.Dpos (H:un P D U h v M):0<D:=by
 rcases xQ D with e|e
 ·have:=H.lt;rw [e] at this;omega
 ·exact e
theorem un.q (H:un P D U h v M):P / D*D<=P/\P<(P / D+1)*D/\P / D<18446744073709551616:=by
 refine⟨Nat.div_mul_le_self P D,?_,(QM H.Dpos).2 (by have:=H.lt;omega)⟩;have:=Nat.lt_div_mul_add (a:=P) H.Dpos;rw [QN,yP];exact this
theorem un.Dh (H:un P D U h v M):h*(18446744073709551616*M)<=D/\D<=(h+1)*(18446744073709551616*M):=by
 have h0:=H.D0;have h1:=H.D1;constructor
 ·rw [<-qH];exact qD (qE M (Nat.le_add_right _ _)) h0
 ·rw [<-qH];refine qD (QK h1) (qE M ?_);have:=H.vb;rw [QN];omega
theorem un.top (H:un P D U h v M):U<(h+1)*18446744073709551616:=by
 have h0:=H.P0;have h1:=H.lt;have h2:=H.Dh.2;have h3:18446744073709551616*D<=18446744073709551616*((h+1)*(18446744073709551616*M)):=QW _ h2;have h4:U*(18446744073709551616*M)<(h+1)*18446744073709551616*(18446744073709551616*M):=by
  rw [qB (h+1),qH];omega
 exact yA h4
theorem un.le (H:un P D U h v M):P / D*h<=U:=by
 obtain⟨h0,_,_⟩:=H.q;have h1:=H.P1;have h2:P / D*(h*(18446744073709551616*M))<=P / D*D:=QW _ H.Dh.1;rw [<-qH] at h2;have h3:P / D*h*(18446744073709551616*M)<(U+1)*(18446744073709551616*M):=za;have:=yA h3;omega
theorem un.two (H:un P D U h v M)(ht:t*h<=U)(tb:t<18446744073709551616):t<=P / D+2:=by
 obtain⟨_,h1,_⟩:=H.q;obtain⟨q,hq⟩:∃q,P / D=q:=⟨_,rfl⟩;rw [hq] at h1⊢;have h2:(q+1)*D<=(q+1)*((h+1)*(18446744073709551616*M)):=QW _ H.Dh.2;have h3:t*h*(18446744073709551616*M)<=U*(18446744073709551616*M):=qE _ ht;have h4:=H.P0;rw [<-qH] at h2;have h5:t*h*(18446744073709551616*M)<(q+1)*(h+1)*(18446744073709551616*M):=za;have h6:=yA h5;have h7:=H.hh;rcases xW (q+2) t with hc|hc
 ·obtain⟨s,rfl⟩:∃s,t=q+1+s:=⟨t - (q+1),za⟩;have h8:2<=s:=za;rw [QN (q+1) s h,qM (q+1) h 1,xS] at h6;have h9:2*h<=s*h:=qE _ h8;omega
 ·exact hc
theorem un.dec {t r:Nat}(H:un P D U h v M)(ht:t*h+r=U)(hv:(r+1)*18446744073709551616<=t*v):P / D+1<=t:=by
 have h1:=H.P1;have h2:t*((h*18446744073709551616+v)*M)<=t*D:=QW _ H.D0;have h3:(U+1)*18446744073709551616<=t*(h*18446744073709551616+v):=by
  rw [qM t (h*18446744073709551616) v,<-qH t h,<-ht];have:(t*h+r+1)*18446744073709551616=t*h*18446744073709551616+(r+1)*18446744073709551616:=by rw [xH (t*h) r 1,QN (t*h) (r+1)]
  rw [this];exact yJ hv _
 have h4:(U+1)*18446744073709551616*M<=t*(h*18446744073709551616+v)*M:=qE _ h3;rw [qH (U+1)] at h4;rw [<-qH t] at h2;have h5:P<t*D:=za;exact(QM H.Dpos).2 h5
theorem un.one {t r:Nat}(H:un P D U h v M)(ht:t*h+r=U)(tb:t<18446744073709551616)(hv:t*v<(r+1)*18446744073709551616):t<=P / D+1:=by
 obtain⟨_,h1,_⟩:=H.q;obtain⟨q,hq⟩:∃q,P / D=q:=⟨_,rfl⟩;rw [hq] at h1⊢;rcases xW (q+1) t with hc|hc
 ·obtain⟨s,rfl⟩:∃s,t=s+1:=⟨t - 1,za⟩;have h2:(q+1)*D<=s*D:=qE _ za;have h3:s*D<=s*((h*18446744073709551616+v+1)*M):=QW _ (QK H.D1);have h4:=H.P0;rw [<-qH] at h3 h4;have h5:U*18446744073709551616*M<s*(h*18446744073709551616+v+1)*M:=za;have h6:=yA h5;have h7:=H.hh;have e1:(s+1)*v=s*v+v:=by rw [QN,yP]
  have e2:U*18446744073709551616=s*h*18446744073709551616+h*18446744073709551616+r*18446744073709551616:=by
   rw [<-ht,QN s 1 h,yP,QN (s*h+h) r,QN (s*h) h]
  have e3:s*(h*18446744073709551616+v+1)=s*h*18446744073709551616+s*v+s:=by
   rw [qM s (h*18446744073709551616+v) 1,qM s (h*18446744073709551616) v,<-qH s h,xS]
  rw [e1,QN r 1,yP] at hv;rw [e2,e3] at h6;omega
 ·exact hc
theorem UK (T E x y:Nat):T+E*y+E*18446744073709551616*x=T+(x*18446744073709551616+y)*E:=by
 rw [QN (x*18446744073709551616) y E,qB E y,qH x 18446744073709551616 E,qB 18446744073709551616 E,qB x];omega
theorem iz {Ld:List Nat}{m:Nat}(hp:zH 18446744073709551616 p)(hd:zH 18446744073709551616 Ld)(d:p.length=m+3)(a:Ld.length=m+2)
  (hh:18446744073709551616<=2*Ld.getD (m+1) 0) (c:dv 18446744073709551616 p<18446744073709551616*dv 18446744073709551616 Ld):
  un (dv 18446744073709551616 p) (dv 18446744073709551616 Ld) (p.getD (m+2) 0*18446744073709551616+p.getD (m+1) 0) (Ld.getD (m+1) 0) (Ld.getD m 0) (18446744073709551616^m):=by
 have hM:0<18446744073709551616^m:=XB zf;have b1:=hd.getD zf (m+1);have b2:=hd.getD zf m;have c1:=hp.getD zf (m+2);have c2:=hp.getD zf (m+1);have d0:dv 18446744073709551616 Ld=dv 18446744073709551616 (Ld.take m)+(Ld.getD (m+1) 0*18446744073709551616+Ld.getD m 0)*18446744073709551616^m:=by
  have e:=uv 18446744073709551616 Ld (m+1);rw [qV za,uv 18446744073709551616 Ld m,qO] at e;rw [e];exact UK _ _ _ _
 have l0:dv 18446744073709551616 (Ld.take m)<18446744073709551616^m:=by
  have:=vy (hd.take m);rwa [qL,a,xG za] at this
 have p0:dv 18446744073709551616 p=dv 18446744073709551616 (p.take (m+1))+(p.getD (m+2) 0*18446744073709551616+p.getD (m+1) 0)*(18446744073709551616*18446744073709551616^m):=by
  have e:=uv 18446744073709551616 p (m+2);rw [qV za,uv 18446744073709551616 p (m+1),qO _ (m+1)] at e;rw [e,<-Nat.pow_succ'];exact UK _ _ _ _
 have l1:dv 18446744073709551616 (p.take (m+1))<18446744073709551616*18446744073709551616^m:=by
  have:=vy (hp.take (m+1));rwa [qL,d,xG za,Nat.pow_succ'] at this
 refine⟨hM,hh,b1,b2,za,?_,za,?_,c⟩
 ·rw [QN _ 1,yP];omega
 ·rw [QN _ 1,yP];omega
structure kG (p0 D:List Nat)(t i:Nat)(p:List Nat)(c b:Nat):Prop where
 len:p.length=p0.length
 dgs:zH 18446744073709551616 p
 carry:c<18446744073709551616
 lack:b<=1
 rest:p.drop i=p0.drop i
 sum:dv 18446744073709551616 (p.take i)+t*dv 18446744073709551616 (D.take i)=dv 18446744073709551616 (p0.take i)+18446744073709551616^i*(c+b)
theorem kG.start (D:List Nat)(t:Nat)(hd:zH 18446744073709551616 p0):kG p0 D t 0 p0 0 0:=⟨rfl,hd,zf,zf,rfl,by simp [dv]⟩
theorem kG.step {D:List Nat}{s d b':Nat}(h:kG p0 D t i p c b)(ht:t<18446744073709551616)(hD:zH 18446744073709551616 D)(hi:i<p0.length)(hs:s=D.getD i 0*t+c+0)(hd:d<18446744073709551616)(hb:b'<=1)
  (hx:d+s%18446744073709551616+b=p.getD i 0+18446744073709551616*b'):kG p0 D t (i+1) (p.set i d) (s / 18446744073709551616) b':=by
 have hw:=hD.getD zf i;refine⟨by simpa using h.len,h.dgs.set_ i hd,by rw [hs];exact Xc hw ht h.carry zf,hb,by rw [fb];exact aP h.rest,?_⟩;have e:=h.sum;have eg:=fo h.rest;have em:=XC s 18446744073709551616;rw [eg] at hx;rw [jr _ _ _ (by rw [h.len];exact hi),vR,qL,h.len,xG za,uv _ p0,uv _ D,qO,qM t,qH (18446744073709551616^i)];have e2:t*(18446744073709551616^i*D.getD i 0)=18446744073709551616^i*(D.getD i 0*t):=by rw [Nat.mul_left_comm,qB t]
 have e3:18446744073709551616^i*d+18446744073709551616^i*(D.getD i 0*t)+18446744073709551616^i*(c+b)=18446744073709551616^i*p0.getD i 0+18446744073709551616^i*(18446744073709551616*(s / 18446744073709551616+b')):=by
  rw [<-qM,<-qM,<-qM];refine congrArg _ ?_;rw [qM];omega
 rw [e2];omega
theorem kG.last {D:List Nat}{d b':Nat}(h:kG p0 D t i p c b)(hi:i+1=p0.length)(hD:D.length=i)(hd:d<18446744073709551616)(hb:b'<=1)
  (hx:d+c+b=p.getD i 0+18446744073709551616*b'):(p.set i d).length=p0.length/\zH 18446744073709551616 (p.set i d)/\dv 18446744073709551616 (p.set i d)+t*dv 18446744073709551616 D=dv 18446744073709551616 p0+18446744073709551616^p0.length*b':=by
 refine⟨by simpa using h.len,h.dgs.set_ i hd,?_⟩;have e:=h.sum;rw [fo h.rest] at hx;have f1:dv 18446744073709551616 (p.set i d)=dv 18446744073709551616 (p.take i)+18446744073709551616^i*d:=by
  have:=jr p i d (by rw [h.len];omega);rw [qV (by simp [h.len];omega)] at this;rw [this,vR,qL,h.len,xG za]
 have f2:dv 18446744073709551616 p0=dv 18446744073709551616 (p0.take i)+18446744073709551616^i*p0.getD i 0:=by
  have:=uv 18446744073709551616 p0 i;rwa [qV za] at this
 rw [qV (l:=D) za] at e;rw [f1,f2,<-hi,qO,qH];have e3:18446744073709551616^i*d+18446744073709551616^i*(c+b)=18446744073709551616^i*p0.getD i 0+18446744073709551616^i*(18446744073709551616*b'):=by
  rw [<-qM,<-qM];refine congrArg _ ?_;omega
 omega
theorem P7 {P D t X E b':Nat}(ht:t=P / D)(hD:0<D)(hX:X<E)(e:X+t*D=P+E*b')(hb:b'<=1):b'=0/\X=P%D:=by
 have h1:=Nat.div_mul_le_self P D;have h2:=Nat.div_add_mod' P D;rw [ht] at e;rcases (show b'=0\/b'=1 by omega) with rfl|rfl
 ·exact⟨rfl,za⟩
 ·omega
theorem N0 {P D t X E b':Nat}(ht:t=P / D+1)(hD:0<D)(hP:P<E)(hX:X<E)(e:X+t*D=P+E*b')(hb:b'<=1):b'=1/\X+D=E+P%D:=by
 have h2:=Nat.div_add_mod' P D;have h3:=QA P hD;rw [ht,QN,yP] at e;rcases (show b'=0\/b'=1 by omega) with rfl|rfl
 ·omega
 ·exact⟨rfl,za⟩
structure kE (p0 D:List Nat)(i:Nat)(p:List Nat)(c:Nat):Prop where
 len:p.length=p0.length
 dgs:zH 18446744073709551616 p
 carry:c<=1
 rest:p.drop i=p0.drop i
 sum:dv 18446744073709551616 (p.take i)+18446744073709551616^i*c=dv 18446744073709551616 (p0.take i)+dv 18446744073709551616 (D.take i)
theorem kE.start (D:List Nat)(hd:zH 18446744073709551616 p0):kE p0 D 0 p0 0:=⟨rfl,hd,zf,rfl,by simp [dv]⟩
theorem kE.step {D:List Nat}{s:Nat}(h:kE p0 D i p c)(hD:zH 18446744073709551616 D)(hi:i<p0.length)(hs:s=p.getD i 0+D.getD i 0+c):kE p0 D (i+1) (p.set i (s%18446744073709551616)) (s / 18446744073709551616):=by
 have hw:=hD.getD zf i;have hv:=h.dgs.getD zf i;have hc:=h.carry;refine⟨by simpa using h.len,h.dgs.set_ i (QA _ zf),za,by rw [fb];exact aP h.rest,?_⟩;have e:=h.sum;rw [fo h.rest] at hs;rw [jr _ _ _ (by rw [h.len];exact hi),vR,qL,h.len,xG za,uv _ p0,uv _ D,qO,qH,xH,<-qM,XC,hs,qM,qM];omega
theorem kE.last {D:List Nat}{s:Nat}(h:kE p0 D i p c)(hi:i+1=p0.length)(hD:D.length=i)(hs:s=p.getD i 0+0+c):
  (p.set i (s%18446744073709551616)).length=p0.length/\zH 18446744073709551616 (p.set i (s%18446744073709551616))/\dv 18446744073709551616 (p.set i (s%18446744073709551616))=(dv 18446744073709551616 p0+dv 18446744073709551616 D)%18446744073709551616^p0.length:=by
 have d:=h.dgs.set_ i (QA s (show 0<18446744073709551616 by decide));have a:(p.set i (s%18446744073709551616)).length=p0.length:=by simpa using h.len
 refine⟨a,d,?_⟩;have hv:=h.dgs.getD zf i;have hc:=h.carry;have e:=h.sum;rw [fo h.rest] at hs;have f1:dv 18446744073709551616 (p.set i (s%18446744073709551616))=dv 18446744073709551616 (p.take i)+18446744073709551616^i*(s%18446744073709551616):=by
  have:=jr p i (s%18446744073709551616) (by rw [h.len];omega);rw [qV (by rw [a];omega)] at this;rw [this,vR,qL,h.len,xG za]
 have f2:dv 18446744073709551616 p0=dv 18446744073709551616 (p0.take i)+18446744073709551616^i*p0.getD i 0:=by
  have:=uv 18446744073709551616 p0 i;rwa [qV za] at this
 rw [qV (l:=D) za] at e;have f3:dv 18446744073709551616 p0+dv 18446744073709551616 D=dv 18446744073709551616 (p.set i (s%18446744073709551616))+18446744073709551616^p0.length*(s / 18446744073709551616):=by
  rw [f1,f2,<-hi,qO,qH,xH (dv 18446744073709551616 (p.take i)),<-qM,XC,hs,XX,qM];omega
 have f4:=vy d;rw [a] at f4;rw [f3,yZ,qS f4]
theorem PN {E R:Nat}(h:X+D=E+R)(hR:R<D)(hX:X<E)(hDE:D<=E):(X+D)%E=R:=by
 rw [h,Nat.add_mod_left,qS za]
structure nc (X D m k n:Nat)(L Q:List Nat):Prop where
 len:L.length=m+n
 dgs:zH 18446744073709551616 L
 qlen:Q.length=n
 qdgs:zH 18446744073709551616 Q
 small:dv 18446744073709551616 (L.drop k)<D
 sum:dv 18446744073709551616 (Q.drop k)*D*18446744073709551616^k+dv 18446744073709551616 L=X
theorem nc.cut (h:nc X D m (k+1) n L Q)(hk:k<n)(hD:D<18446744073709551616^m):
  ∃A p C,L=A++p++C/\A.length=k/\p.length=m+1/\zH 18446744073709551616 p/\dv 18446744073709551616 p=dv 18446744073709551616 (L.drop k)/\dv 18446744073709551616 p<18446744073709551616*D/\dv 18446744073709551616 C=0:=by
 have hl:=h.len;have hd:=h.dgs;refine⟨L.take k,(L.drop k).take (m+1),(L.drop k).drop (m+1),by rw [xV,YC,YC],by simp;omega,by simp;omega,(hd.drop k).take _,?_,?_,?_⟩
 all_goals
  have h1:=h.small
  have e1:dv 18446744073709551616 (L.drop (k+1))=dv 18446744073709551616 (L.drop k) / 18446744073709551616:=by
   have:=ft (b:=18446744073709551616) zf (hd.drop k) 1;rwa [List.drop_drop,Nat.pow_one] at this
  rw [e1] at h1
  have h2:dv 18446744073709551616 (L.drop k)<18446744073709551616*D:=za
  have h3:dv 18446744073709551616 (L.drop k)<18446744073709551616^(m+1):=by
   rw [qO];omega
 ·rw [Sm zf (hd.drop k),qS h3]
 ·rw [Sm zf (hd.drop k),qS h3];exact h2
 ·rw [ft zf (hd.drop k),QB h3]
theorem nc.step {A C p':List Nat}(h:nc X D m (k+1) n (A++p++C) Q)(hA:A.length=k)(hp:p.length=m+1)(hC:dv 18446744073709551616 C=0)(hk:k<n)(hp':p'.length=m+1)(a:zH 18446744073709551616 p')
  (hv:dv 18446744073709551616 p'=dv 18446744073709551616 p%D) (hq:dv 18446744073709551616 p / D<18446744073709551616) (hD:0<D):nc X D m k n (A++p'++C) (Q.set k (dv 18446744073709551616 p / D)):=by
 have hl:=h.len;have hd:=h.dgs;have d1:zH 18446744073709551616 A:=λd m=>hd d (by simp [m]);have d2:zH 18446744073709551616 C:=λd m=>hd d (by simp [m]);have e:=h.sum;rw [tF,tF,hC,yD,XX] at e;refine⟨by simp at hl⊢;omega,(d1.append a).append d2,by simpa using h.qlen,h.qdgs.set_ k hq,?_,?_⟩
 ·rw [xV,List.drop_append_of_le_length za,xA za,yQ,tF,hC,yD,XX,hv];exact QA _ hD
 ·rw [tF,tF,hC,yD,XX,hv,TH _ _ _ (by rw [h.qlen];exact hk),dv,<-e,hA];have e3:=Nat.div_add_mod' (dv 18446744073709551616 p) D;obtain⟨P,hP⟩:∃P,dv 18446744073709551616 p=P:=⟨_,rfl⟩;obtain⟨T,hT⟩:∃T,dv 18446744073709551616 (Q.drop (k+1))=T:=⟨_,rfl⟩;obtain⟨E,hE⟩:∃E,18446744073709551616^k=E:=⟨_,rfl⟩;rw [hP] at e3⊢;rw [qO,hE,hT];have f1:(P / D+18446744073709551616*T)*D*E=P / D*D*E+T*D*(E*18446744073709551616):=by
   rw [QN,QN];refine congrArg _ ?_;rw [qB 18446744073709551616 T,Nat.mul_right_comm T,qH (T*D),qB 18446744073709551616 E]
  have f2:E*P=E*(P / D*D)+E*(P%D):=by rw [<-qM,e3]
  rw [f1,f2,qB (P / D*D) E];omega
theorem nc.done {L:List Nat}(h:nc X D m 0 n L Q):dv 18446744073709551616 Q=X / D/\dv 18446744073709551616 L=X%D:=by
 have e:=h.sum;have h3:=h.small;rw [List.drop_zero] at h3;rw [List.drop_zero,XM,xS] at e;have hm:0<D:=za;refine⟨?_,?_⟩
 ·rw [<-e,YO,Nat.add_mul_div_right _ _ hm,QB h3,xR]
 ·rw [<-e,YO,Nat.add_mul_mod_self_right,qS h3]
theorem nc.start (hl:L.length=m+n)(hd:zH 18446744073709551616 L)(hv:dv 18446744073709551616 L=X)(hs:X / 18446744073709551616^n<D):nc X D m n n L (List.replicate n 0):=by
 refine⟨hl,hd,zG,zH.zeros zf n,by rw [ft zf hd,hv];exact hs,?_⟩;rw [xA zG,hv];simp [dv]
