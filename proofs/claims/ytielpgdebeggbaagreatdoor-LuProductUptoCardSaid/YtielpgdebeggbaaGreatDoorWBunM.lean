/- What this claim leans on. -/
import Derived.Test.YtielpgdebeggbaaGreatDoorWBunN
set_option linter.unusedVariables false
set_option linter.unusedSimpArgs false
namespace Go.Proofs.YtielpgdebeggbaaGreatDoor
open Go Go.RowKit
set_option maxHeartbeats 16000000
variable {L L0 Q p p0:List Nat}{D M N P U X a b c h i j k m n t v x y:Nat}
theorem lH (l:List Nat)(k d:Nat)(h:k<l.length):(l.set k d).take (k+1)=l.take k++[d]:=by
 rw [QZ (by simpa using h)];simp [YV];exact List.set_eq_of_length_le (by simp;omega)
theorem jU (l:List Nat)(k d:Nat):(l.set k d).drop (k+1)=l.drop (k+1):=by
 rw [List.drop_set,if_pos zb]
theorem zG.set_ {l:List Nat}(h:zG b l)(k:Nat){d:Nat}(hd:d<b):zG b (l.set k d):=by
 intro e he;rcases QW he with h1|h1
 ·exact h e h1
 ·omega
theorem jP {l m:List Nat}(h:l.drop k=m.drop k):l.getD k 0=m.getD k 0:=by
 have h1:=congrArg (λl=>l.getD 0 0) h;simpa [qQ,YR] using h1
theorem eW {l m:List Nat}(h:l.drop k=m.drop k):l.drop (k+1)=m.drop (k+1):=by
 have h1:=congrArg (List.drop 1) h;rwa [List.drop_drop,List.drop_drop] at h1
structure oW (x a b k n:Nat)(L:List Nat)(c:Nat):Prop where
 len:L.length=n
 dgs:zG 18446744073709551616 L
 carry:c<18446744073709551616
 rest:L.drop k=(dg 18446744073709551616 x).drop k
 sum:dv 18446744073709551616 (L.take k)+18446744073709551616^k*c=x%18446744073709551616^k*a+b
theorem oW.start {a:Nat}(hn:(dg 18446744073709551616 x).length=n)(hb:b<18446744073709551616):oW x a b 0 n (dg 18446744073709551616 x) b:=
 ⟨hn,uV zf x,hb,rfl,by simp [dv,XX]⟩
theorem Zd {p q r s:Nat}(hp:p<18446744073709551616)(hq:q<18446744073709551616)(hr:r<18446744073709551616)(hs:s<18446744073709551616):(p*q+r+s) / 18446744073709551616<18446744073709551616:=by
 have h1:p*q<=18446744073709551615*18446744073709551615:=Nat.mul_le_mul zb zb;omega
theorem oW.get (h:oW x a b k n L c):L.getD k 0=wd x k:=by rw [jP h.rest,oQ]
theorem oW.step {s:Nat}(h:oW x a b k n L c)(ha:a<18446744073709551616)(hk:k<n)(hs:s=wd x k*a+c+0):
  oW x a b (k+1) n (L.set k (s%18446744073709551616)) (s / 18446744073709551616):=by
 refine⟨by simpa using h.len,h.dgs.set_ k (xG _ zf),?_,by rw [jU];exact eW h.rest,?_⟩
 ·rw [hs];exact Zd (wJ x k) ha h.carry zf
 ·have e:=h.sum;rw [lH _ _ _ (by rw [h.len];exact hk),vK,qA,h.len,xU zb,vW 18446744073709551616 x k,QK,qD,xA,<-qE,XL,hs];show _=(x%_+18446744073709551616^k*wd x k)*a+b;rw [XD,qE,QE,<-qD];omega
theorem oW.done {L:List Nat}(h:oW x a b n n L c)(hn:(dg 18446744073709551616 x).length<=n):dv 18446744073709551616 (L++[c])=x*a+b:=by
 have e:=h.sum;rw [qV (by rw [h.len];exact qX _),qO (qJ (wh zf x) (qR zf hn))] at e;rw [vK,h.len,e]
structure vC (L0:List Nat)(y a i j N:Nat)(L:List Nat)(c:Nat):Prop where
 len:L.length=N
 dgs:zG 18446744073709551616 L
 carry:c<18446744073709551616
 rest:L.drop (i+j)=L0.drop (i+j)
 sum:dv 18446744073709551616 (L.take (i+j))+18446744073709551616^(i+j)*c=dv 18446744073709551616 (L0.take (i+j))+18446744073709551616^i*(a*(y%18446744073709551616^j))
theorem vC.start (y a i:Nat)(hn:L0.length=N)(hd:zG 18446744073709551616 L0):vC L0 y a i 0 N L0 0:=
 ⟨hn,hd,zf,rfl,by simp [XX]⟩
theorem vC.step {s:Nat}(h:vC L0 y a i j N L c)(ha:a<18446744073709551616)(hk:i+j<N)(hs:s=wd y j*a+L.getD (i+j) 0+c):
  vC L0 y a i (j+1) N (L.set (i+j) (s%18446744073709551616)) (s / 18446744073709551616):=by
 have hp:=h.dgs.getD zf (i+j);refine⟨by simpa using h.len,h.dgs.set_ _ (xG _ zf),?_,by rw [<-xA,jU];exact eW h.rest,?_⟩
 ·rw [hs];exact Zd (wJ y j) ha hp h.carry
 ·have e:=h.sum;have eg:=jP h.rest;rw [<-xA,lH _ _ _ (by rw [h.len];exact hk),vK,qA,h.len,xU zb,uA _ L0,<-eg,vW 18446744073709551616 y j,QK,qD,xA,<-qE,XL,hs];obtain⟨p,d⟩:∃p,L.getD (i+j) 0=p:=⟨_,rfl⟩;rw [d];show _=_+18446744073709551616^i*(a*(y%_+18446744073709551616^j*wd y j));rw [qE,qE,qE a,qE (18446744073709551616^i)];have e2:18446744073709551616^i*(a*(18446744073709551616^j*wd y j))=18446744073709551616^(i+j)*(wd y j*a):=by
   rw [xI,qD (18446744073709551616^i)];refine congrArg _ ?_;rw [Nat.mul_left_comm,QQ a]
  rw [e2];omega
structure oA (x y i m N:Nat)(L:List Nat):Prop where
 len:L.length=N
 dgs:zG 18446744073709551616 L
 sum:dv 18446744073709551616 (L.take (i+m))=x%18446744073709551616^i*y
theorem oA.start (x y m N:Nat):oA x y 0 m N (List.replicate N 0):=by
 refine⟨zA,zG.zeros zf N,?_⟩;rw [List.take_replicate,jR,yV,XX,Nat.zero_mul]
theorem oA.step (h0:oA x y i m N L0)(h:vC L0 y (wd x i) i m N L c)(hy:(dg 18446744073709551616 y).length<=m)(hk:i+m<N):oA x y (i+1) m N (L.set (i+m) c):=by
 refine⟨by simpa using h.len,h.dgs.set_ _ h.carry,?_⟩;have e:=h.sum;rw [h0.sum,qO (qJ (wh zf y) (qR zf hy))] at e;rw [show i+1+m=i+m+1 from by omega,lH _ _ _ (by rw [h.len];exact hk),vK,qA,h.len,xU zb,e,vW 18446744073709551616 x i,QE];show _=_+18446744073709551616^i*wd x i*y;rw [qD]
theorem oA.done {L:List Nat}(h:oA x y n m (n+m) L)(hx:(dg 18446744073709551616 x).length<=n):dv 18446744073709551616 L=x*y:=by
 have e:=h.sum;rwa [qV (by rw [h.len];exact qX _),qO (qJ (wh zf x) (qR zf hx))] at e
theorem qi (p q r s:Nat):vk (p:Int) (q:Int) (r:Int) (s:Int)=((p*q+r+s) / 18446744073709551616:Nat)/\tN (p:Int) (q:Int) (r:Int) (s:Int)=((p*q+r+s)%18446744073709551616:Nat):=by
 unfold vk tN;constructor<;>simp
structure oz (x a k n:Nat)(L:List Nat)(r:Nat):Prop where
 len:L.length=n
 dgs:zG 18446744073709551616 L
 rest:r<a
 low:L.take k=(dg 18446744073709551616 x).take k
 sum:dv 18446744073709551616 (L.drop k)*a+r=x / 18446744073709551616^k
theorem oz.start {a:Nat}(hn:(dg 18446744073709551616 x).length=n)(ha:a≠0):oz x a n n (dg 18446744073709551616 x) 0:=by
 refine⟨hn,uV zf x,zb,rfl,?_⟩;have h:=wh (b:=18446744073709551616) zf x;rw [hn] at h;rw [xC zb,xE h];simp [dv]
theorem mz (l:List Nat)(k d:Nat):(l.set k d).take k=l.take k:=by
 rw [YV];exact List.set_eq_of_length_le (by simp;omega)
theorem VM (l:List Nat)(k d:Nat)(h:k<l.length):(l.set k d).drop k=d::l.drop (k+1):=by
 rw [yO (by simpa using h),jU];simp
theorem Ql {l m:List Nat}(h:l.take (k+1)=m.take (k+1)):l.take k=m.take k:=by
 have h1:=congrArg (List.take k) h;rwa [List.take_take,List.take_take,xU zb] at h1
theorem pP {l m:List Nat}(h:l.take k=m.take k)(hj:j<k):l.getD j 0=m.getD j 0:=by
 have h1:=congrArg (λl=>l.getD j 0) h;simpa [qQ,xD,hj] using h1
theorem oz.get {r:Nat}(h:oz x a k n L r){j:Nat}(hj:j<k):L.getD j 0=wd x j:=by rw [pP h.low hj,oQ]
theorem oz.step {r s:Nat}(h:oz x a (k+1) n L r)(hk:k<n)(hs:s=r*18446744073709551616+wd x k)(ha:a<18446744073709551616):oz x a k n (L.set k (s / a)) (s%a):=by
 have hw:=wJ x k;have hr:=h.rest;have hq:s / a<18446744073709551616:=by
  refine(QA zb).2 ?_;have:(r+1)*18446744073709551616<=a*18446744073709551616:=qS _ hr;rw [QQ _ a];omega
 refine⟨by simpa using h.len,h.dgs.set_ k hq,xG _ zb,by rw [mz];exact Ql h.low,?_⟩;have e:=h.sum;have e2:=it 18446744073709551616 x k;have e3:=yQ s a;rw [VM _ _ _ (by rw [h.len];exact hk),dv,e2,<-e];unfold wd at hs;rw [QE,qE,qD,QQ (s / a) a];omega
theorem oz.done {r:Nat}{L:List Nat}(h:oz x a 0 n L r):dv 18446744073709551616 L=x / a/\r=x%a:=by
 have e:=h.sum;have h3:=h.rest;rw [yV,Nat.div_one,List.drop_zero] at e;have hm:0<a:=zb;refine⟨?_,?_⟩
 ·rw [<-e,YN,Nat.add_mul_div_right _ _ hm,xE h3,xB]
 ·rw [<-e,YN,Nat.add_mul_mod_self_right,qO h3]
structure vT (P D U h v M:Nat):Prop where
 hM:0<M
 hh:18446744073709551616<=2*h
 hb:h<18446744073709551616
 vb:v<18446744073709551616
 D0:(h*18446744073709551616+v)*M<=D
 D1:D<(h*18446744073709551616+v+1)*M
 P0:U*(18446744073709551616*M)<=P
 P1:P<(U+1)*(18446744073709551616*M)
 lt:P<18446744073709551616*D
theorem vT.Dpos (H:vT P D U h v M):0<D:=by
 rcases xQ D with e|e
 ·have:=H.lt;rw [e] at this;omega
 ·exact e
theorem vT.q (H:vT P D U h v M):P / D*D<=P/\P<(P / D+1)*D/\P / D<18446744073709551616:=by
 refine⟨Nat.div_mul_le_self P D,?_,(QA H.Dpos).2 (by have:=H.lt;omega)⟩;have:=Nat.lt_div_mul_add (a:=P) H.Dpos;rw [QE,yY];exact this
theorem vT.Dh (H:vT P D U h v M):h*(18446744073709551616*M)<=D/\D<=(h+1)*(18446744073709551616*M):=by
 have h0:=H.D0;have h1:=H.D1;constructor
 ·rw [<-qD];exact qH (qS M (Nat.le_add_right _ _)) h0
 ·rw [<-qD];refine qH (qG h1) (qS M ?_);have:=H.vb;rw [QE];omega
theorem vT.top (H:vT P D U h v M):U<(h+1)*18446744073709551616:=by
 have h0:=H.P0;have h1:=H.lt;have h2:=H.Dh.2;have h3:18446744073709551616*D<=18446744073709551616*((h+1)*(18446744073709551616*M)):=QM _ h2;have h4:U*(18446744073709551616*M)<(h+1)*18446744073709551616*(18446744073709551616*M):=by
  rw [QQ (h+1),qD];omega
 exact yG h4
theorem vT.le (H:vT P D U h v M):P / D*h<=U:=by
 obtain⟨h0,_,_⟩:=H.q;have h1:=H.P1;have h2:P / D*(h*(18446744073709551616*M))<=P / D*D:=QM _ H.Dh.1;rw [<-qD] at h2;have h3:P / D*h*(18446744073709551616*M)<(U+1)*(18446744073709551616*M):=zb;have:=yG h3;omega
theorem vT.two (H:vT P D U h v M)(ht:t*h<=U)(tb:t<18446744073709551616):t<=P / D+2:=by
 obtain⟨_,h1,_⟩:=H.q;obtain⟨q,hq⟩:∃q,P / D=q:=⟨_,rfl⟩;rw [hq] at h1⊢;have h2:(q+1)*D<=(q+1)*((h+1)*(18446744073709551616*M)):=QM _ H.Dh.2;have h3:t*h*(18446744073709551616*M)<=U*(18446744073709551616*M):=qS _ ht;have h4:=H.P0;rw [<-qD] at h2;have h5:t*h*(18446744073709551616*M)<(q+1)*(h+1)*(18446744073709551616*M):=zb;have h6:=yG h5;have h7:=H.hh;rcases XQ (q+2) t with hc|hc
 ·obtain⟨s,rfl⟩:∃s,t=q+1+s:=⟨t - (q+1),zb⟩;have h8:2<=s:=zb;rw [QE (q+1) s h,qE (q+1) h 1,xV] at h6;have h9:2*h<=s*h:=qS _ h8;omega
 ·exact hc
theorem vT.dec {t r:Nat}(H:vT P D U h v M)(ht:t*h+r=U)(hv:(r+1)*18446744073709551616<=t*v):P / D+1<=t:=by
 have h1:=H.P1;have h2:t*((h*18446744073709551616+v)*M)<=t*D:=QM _ H.D0;have h3:(U+1)*18446744073709551616<=t*(h*18446744073709551616+v):=by
  rw [qE t (h*18446744073709551616) v,<-qD t h,<-ht];have:(t*h+r+1)*18446744073709551616=t*h*18446744073709551616+(r+1)*18446744073709551616:=by rw [xA (t*h) r 1,QE (t*h) (r+1)]
  rw [this];exact XN hv _
 have h4:(U+1)*18446744073709551616*M<=t*(h*18446744073709551616+v)*M:=qS _ h3;rw [qD (U+1)] at h4;rw [<-qD t] at h2;have h5:P<t*D:=zb;exact(QA H.Dpos).2 h5
theorem vT.one {t r:Nat}(H:vT P D U h v M)(ht:t*h+r=U)(tb:t<18446744073709551616)(hv:t*v<(r+1)*18446744073709551616):t<=P / D+1:=by
 obtain⟨_,h1,_⟩:=H.q;obtain⟨q,hq⟩:∃q,P / D=q:=⟨_,rfl⟩;rw [hq] at h1⊢;rcases XQ (q+1) t with hc|hc
 ·obtain⟨s,rfl⟩:∃s,t=s+1:=⟨t - 1,zb⟩;have h2:(q+1)*D<=s*D:=qS _ zb;have h3:s*D<=s*((h*18446744073709551616+v+1)*M):=QM _ (qG H.D1);have h4:=H.P0;rw [<-qD] at h3 h4;have h5:U*18446744073709551616*M<s*(h*18446744073709551616+v+1)*M:=zb;have h6:=yG h5;have h7:=H.hh;have e1:(s+1)*v=s*v+v:=by rw [QE,yY]
  have e2:U*18446744073709551616=s*h*18446744073709551616+h*18446744073709551616+r*18446744073709551616:=by
   rw [<-ht,QE s 1 h,yY,QE (s*h+h) r,QE (s*h) h]
  have e3:s*(h*18446744073709551616+v+1)=s*h*18446744073709551616+s*v+s:=by
   rw [qE s (h*18446744073709551616+v) 1,qE s (h*18446744073709551616) v,<-qD s h,xV]
  rw [e1,QE r 1,yY] at hv;rw [e2,e3] at h6;omega
 ·exact hc
theorem Vk (T E x y:Nat):T+E*y+E*18446744073709551616*x=T+(x*18446744073709551616+y)*E:=by
 rw [QE (x*18446744073709551616) y E,QQ E y,qD x 18446744073709551616 E,QQ 18446744073709551616 E,QQ x];omega
theorem kP {Ld:List Nat}{m:Nat}(hp:zG 18446744073709551616 p)(hd:zG 18446744073709551616 Ld)(d:p.length=m+3)(a:Ld.length=m+2)
  (hh:18446744073709551616<=2*Ld.getD (m+1) 0) (c:dv 18446744073709551616 p<18446744073709551616*dv 18446744073709551616 Ld):
  vT (dv 18446744073709551616 p) (dv 18446744073709551616 Ld) (p.getD (m+2) 0*18446744073709551616+p.getD (m+1) 0) (Ld.getD (m+1) 0) (Ld.getD m 0) (18446744073709551616^m):=by
 have hM:0<18446744073709551616^m:=yX zf;have b1:=hd.getD zf (m+1);have b2:=hd.getD zf m;have c1:=hp.getD zf (m+2);have c2:=hp.getD zf (m+1);have d0:dv 18446744073709551616 Ld=dv 18446744073709551616 (Ld.take m)+(Ld.getD (m+1) 0*18446744073709551616+Ld.getD m 0)*18446744073709551616^m:=by
  have e:=uA 18446744073709551616 Ld (m+1);rw [qV zb,uA 18446744073709551616 Ld m,QK] at e;rw [e];exact Vk _ _ _ _
 have l0:dv 18446744073709551616 (Ld.take m)<18446744073709551616^m:=by
  have:=vp (hd.take m);rwa [qA,a,xU zb] at this
 have p0:dv 18446744073709551616 p=dv 18446744073709551616 (p.take (m+1))+(p.getD (m+2) 0*18446744073709551616+p.getD (m+1) 0)*(18446744073709551616*18446744073709551616^m):=by
  have e:=uA 18446744073709551616 p (m+2);rw [qV zb,uA 18446744073709551616 p (m+1),QK _ (m+1)] at e;rw [e,<-Nat.pow_succ'];exact Vk _ _ _ _
 have l1:dv 18446744073709551616 (p.take (m+1))<18446744073709551616*18446744073709551616^m:=by
  have:=vp (hp.take (m+1));rwa [qA,d,xU zb,Nat.pow_succ'] at this
 refine⟨hM,hh,b1,b2,zb,?_,zb,?_,c⟩
 ·rw [QE _ 1,yY];omega
 ·rw [QE _ 1,yY];omega
structure mV (p0 D:List Nat)(t i:Nat)(p:List Nat)(c b:Nat):Prop where
 len:p.length=p0.length
 dgs:zG 18446744073709551616 p
 carry:c<18446744073709551616
 lack:b<=1
 rest:p.drop i=p0.drop i
 sum:dv 18446744073709551616 (p.take i)+t*dv 18446744073709551616 (D.take i)=dv 18446744073709551616 (p0.take i)+18446744073709551616^i*(c+b)
theorem mV.start (D:List Nat)(t:Nat)(hd:zG 18446744073709551616 p0):mV p0 D t 0 p0 0 0:=⟨rfl,hd,zf,zf,rfl,by simp [dv]⟩
theorem mV.step {D:List Nat}{s d b':Nat}(h:mV p0 D t i p c b)(ht:t<18446744073709551616)(hD:zG 18446744073709551616 D)(hi:i<p0.length)(hs:s=D.getD i 0*t+c+0)(hd:d<18446744073709551616)(hb:b'<=1)
  (hx:d+s%18446744073709551616+b=p.getD i 0+18446744073709551616*b'):mV p0 D t (i+1) (p.set i d) (s / 18446744073709551616) b':=by
 have hw:=hD.getD zf i;refine⟨by simpa using h.len,h.dgs.set_ i hd,by rw [hs];exact Zd hw ht h.carry zf,hb,by rw [jU];exact eW h.rest,?_⟩;have e:=h.sum;have eg:=jP h.rest;have em:=XL s 18446744073709551616;rw [eg] at hx;rw [lH _ _ _ (by rw [h.len];exact hi),vK,qA,h.len,xU zb,uA _ p0,uA _ D,QK,qE t,qD (18446744073709551616^i)];have e2:t*(18446744073709551616^i*D.getD i 0)=18446744073709551616^i*(D.getD i 0*t):=by rw [Nat.mul_left_comm,QQ t]
 have e3:18446744073709551616^i*d+18446744073709551616^i*(D.getD i 0*t)+18446744073709551616^i*(c+b)=18446744073709551616^i*p0.getD i 0+18446744073709551616^i*(18446744073709551616*(s / 18446744073709551616+b')):=by
  rw [<-qE,<-qE,<-qE];refine congrArg _ ?_;rw [qE];omega
 rw [e2];omega
theorem mV.last {D:List Nat}{d b':Nat}(h:mV p0 D t i p c b)(hi:i+1=p0.length)(hD:D.length=i)(hd:d<18446744073709551616)(hb:b'<=1)
  (hx:d+c+b=p.getD i 0+18446744073709551616*b'):(p.set i d).length=p0.length/\zG 18446744073709551616 (p.set i d)/\dv 18446744073709551616 (p.set i d)+t*dv 18446744073709551616 D=dv 18446744073709551616 p0+18446744073709551616^p0.length*b':=by
 refine⟨by simpa using h.len,h.dgs.set_ i hd,?_⟩;have e:=h.sum;rw [jP h.rest] at hx;have f1:dv 18446744073709551616 (p.set i d)=dv 18446744073709551616 (p.take i)+18446744073709551616^i*d:=by
  have:=lH p i d (by rw [h.len];omega);rw [qV (by simp [h.len];omega)] at this;rw [this,vK,qA,h.len,xU zb]
 have f2:dv 18446744073709551616 p0=dv 18446744073709551616 (p0.take i)+18446744073709551616^i*p0.getD i 0:=by
  have:=uA 18446744073709551616 p0 i;rwa [qV zb] at this
 rw [qV (l:=D) zb] at e;rw [f1,f2,<-hi,QK,qD];have e3:18446744073709551616^i*d+18446744073709551616^i*(c+b)=18446744073709551616^i*p0.getD i 0+18446744073709551616^i*(18446744073709551616*b'):=by
  rw [<-qE,<-qE];refine congrArg _ ?_;omega
 omega
theorem S7 {P D t X E b':Nat}(ht:t=P / D)(hD:0<D)(hX:X<E)(e:X+t*D=P+E*b')(hb:b'<=1):b'=0/\X=P%D:=by
 have h1:=Nat.div_mul_le_self P D;have h2:=Nat.div_add_mod' P D;rw [ht] at e;rcases (show b'=0\/b'=1 by omega) with rfl|rfl
 ·exact⟨rfl,zb⟩
 ·omega
theorem Qm {P D t X E b':Nat}(ht:t=P / D+1)(hD:0<D)(hP:P<E)(hX:X<E)(e:X+t*D=P+E*b')(hb:b'<=1):b'=1/\X+D=E+P%D:=by
 have h2:=Nat.div_add_mod' P D;have h3:=xG P hD;rw [ht,QE,yY] at e;rcases (show b'=0\/b'=1 by omega) with rfl|rfl
 ·omega
 ·exact⟨rfl,zb⟩
structure mU (p0 D:List Nat)(i:Nat)(p:List Nat)(c:Nat):Prop where
 len:p.length=p0.length
 dgs:zG 18446744073709551616 p
 carry:c<=1
 rest:p.drop i=p0.drop i
 sum:dv 18446744073709551616 (p.take i)+18446744073709551616^i*c=dv 18446744073709551616 (p0.take i)+dv 18446744073709551616 (D.take i)
theorem mU.start (D:List Nat)(hd:zG 18446744073709551616 p0):mU p0 D 0 p0 0:=⟨rfl,hd,zf,rfl,by simp [dv]⟩
theorem mU.step {D:List Nat}{s:Nat}(h:mU p0 D i p c)(hD:zG 18446744073709551616 D)(hi:i<p0.length)(hs:s=p.getD i 0+D.getD i 0+c):mU p0 D (i+1) (p.set i (s%18446744073709551616)) (s / 18446744073709551616):=by
 have hw:=hD.getD zf i;have hv:=h.dgs.getD zf i;have hc:=h.carry;refine⟨by simpa using h.len,h.dgs.set_ i (xG _ zf),zb,by rw [jU];exact eW h.rest,?_⟩;have e:=h.sum;rw [jP h.rest] at hs;rw [lH _ _ _ (by rw [h.len];exact hi),vK,qA,h.len,xU zb,uA _ p0,uA _ D,QK,qD,xA,<-qE,XL,hs,qE,qE];omega
theorem mU.last {D:List Nat}{s:Nat}(h:mU p0 D i p c)(hi:i+1=p0.length)(hD:D.length=i)(hs:s=p.getD i 0+0+c):
  (p.set i (s%18446744073709551616)).length=p0.length/\zG 18446744073709551616 (p.set i (s%18446744073709551616))/\dv 18446744073709551616 (p.set i (s%18446744073709551616))=(dv 18446744073709551616 p0+dv 18446744073709551616 D)%18446744073709551616^p0.length:=by
 have d:=h.dgs.set_ i (xG s (show 0<18446744073709551616 by decide));have a:(p.set i (s%18446744073709551616)).length=p0.length:=by simpa using h.len
 refine⟨a,d,?_⟩;have hv:=h.dgs.getD zf i;have hc:=h.carry;have e:=h.sum;rw [jP h.rest] at hs;have f1:dv 18446744073709551616 (p.set i (s%18446744073709551616))=dv 18446744073709551616 (p.take i)+18446744073709551616^i*(s%18446744073709551616):=by
  have:=lH p i (s%18446744073709551616) (by rw [h.len];omega);rw [qV (by rw [a];omega)] at this;rw [this,vK,qA,h.len,xU zb]
 have f2:dv 18446744073709551616 p0=dv 18446744073709551616 (p0.take i)+18446744073709551616^i*p0.getD i 0:=by
  have:=uA 18446744073709551616 p0 i;rwa [qV zb] at this
 rw [qV (l:=D) zb] at e;have f3:dv 18446744073709551616 p0+dv 18446744073709551616 D=dv 18446744073709551616 (p.set i (s%18446744073709551616))+18446744073709551616^p0.length*(s / 18446744073709551616):=by
  rw [f1,f2,<-hi,QK,qD,xA (dv 18446744073709551616 (p.take i)),<-qE,XL,hs,XD,qE];omega
 have f4:=vp d;rw [a] at f4;rw [f3,XM,qO f4]
theorem SW {E R:Nat}(h:X+D=E+R)(hR:R<D)(hX:X<E)(hDE:D<=E):(X+D)%E=R:=by
 rw [h,Nat.add_mod_left,qO zb]
structure om (X D m k n:Nat)(L Q:List Nat):Prop where
 len:L.length=m+n
 dgs:zG 18446744073709551616 L
 qlen:Q.length=n
 qdgs:zG 18446744073709551616 Q
 small:dv 18446744073709551616 (L.drop k)<D
 sum:dv 18446744073709551616 (Q.drop k)*D*18446744073709551616^k+dv 18446744073709551616 L=X
theorem om.cut (h:om X D m (k+1) n L Q)(hk:k<n)(hD:D<18446744073709551616^m):
  ∃A p C,L=A++p++C/\A.length=k/\p.length=m+1/\zG 18446744073709551616 p/\dv 18446744073709551616 p=dv 18446744073709551616 (L.drop k)/\dv 18446744073709551616 p<18446744073709551616*D/\dv 18446744073709551616 C=0:=by
 have hl:=h.len;have hd:=h.dgs;refine⟨L.take k,(L.drop k).take (m+1),(L.drop k).drop (m+1),by rw [xX,YS,YS],by simp;omega,by simp;omega,(hd.drop k).take _,?_,?_,?_⟩
 all_goals
  have h1:=h.small
  have e1:dv 18446744073709551616 (L.drop (k+1))=dv 18446744073709551616 (L.drop k) / 18446744073709551616:=by
   have:=im (b:=18446744073709551616) zf (hd.drop k) 1;rwa [List.drop_drop,Nat.pow_one] at this
  rw [e1] at h1
  have h2:dv 18446744073709551616 (L.drop k)<18446744073709551616*D:=zb
  have h3:dv 18446744073709551616 (L.drop k)<18446744073709551616^(m+1):=by
   rw [QK];omega
 ·rw [Us zf (hd.drop k),qO h3]
 ·rw [Us zf (hd.drop k),qO h3];exact h2
 ·rw [im zf (hd.drop k),xE h3]
theorem om.step {A C p':List Nat}(h:om X D m (k+1) n (A++p++C) Q)(hA:A.length=k)(hp:p.length=m+1)(hC:dv 18446744073709551616 C=0)(hk:k<n)(hp':p'.length=m+1)(a:zG 18446744073709551616 p')
  (hv:dv 18446744073709551616 p'=dv 18446744073709551616 p%D) (hq:dv 18446744073709551616 p / D<18446744073709551616) (hD:0<D):om X D m k n (A++p'++C) (Q.set k (dv 18446744073709551616 p / D)):=by
 have hl:=h.len;have hd:=h.dgs;have d1:zG 18446744073709551616 A:=λd m=>hd d (by simp [m]);have d2:zG 18446744073709551616 C:=λd m=>hd d (by simp [m]);have e:=h.sum;rw [tF,tF,hC,yC,XD] at e;refine⟨by simp at hl⊢;omega,(d1.append a).append d2,by simpa using h.qlen,h.qdgs.set_ k hq,?_,?_⟩
 ·rw [xX,List.drop_append_of_le_length zb,xC zb,XC,tF,hC,yC,XD,hv];exact xG _ hD
 ·rw [tF,tF,hC,yC,XD,hv,VM _ _ _ (by rw [h.qlen];exact hk),dv,<-e,hA];have e3:=Nat.div_add_mod' (dv 18446744073709551616 p) D;obtain⟨P,hP⟩:∃P,dv 18446744073709551616 p=P:=⟨_,rfl⟩;obtain⟨T,hT⟩:∃T,dv 18446744073709551616 (Q.drop (k+1))=T:=⟨_,rfl⟩;obtain⟨E,hE⟩:∃E,18446744073709551616^k=E:=⟨_,rfl⟩;rw [hP] at e3⊢;rw [QK,hE,hT];have f1:(P / D+18446744073709551616*T)*D*E=P / D*D*E+T*D*(E*18446744073709551616):=by
   rw [QE,QE];refine congrArg _ ?_;rw [QQ 18446744073709551616 T,Nat.mul_right_comm T,qD (T*D),QQ 18446744073709551616 E]
  have f2:E*P=E*(P / D*D)+E*(P%D):=by rw [<-qE,e3]
  rw [f1,f2,QQ (P / D*D) E];omega
theorem om.done {L:List Nat}(h:om X D m 0 n L Q):dv 18446744073709551616 Q=X / D/\dv 18446744073709551616 L=X%D:=by
 have e:=h.sum;have h3:=h.small;rw [List.drop_zero] at h3;rw [List.drop_zero,yV,xV] at e;have hm:0<D:=zb;refine⟨?_,?_⟩
 ·rw [<-e,YN,Nat.add_mul_div_right _ _ hm,xE h3,xB]
 ·rw [<-e,YN,Nat.add_mul_mod_self_right,qO h3]
theorem om.start (hl:L.length=m+n)(hd:zG 18446744073709551616 L)(hv:dv 18446744073709551616 L=X)(hs:X / 18446744073709551616^n<D):om X D m n n L (List.replicate n 0):=by
 refine⟨hl,hd,zA,zG.zeros zf n,by rw [im zf hd,hv];exact hs,?_⟩;rw [xC zA,hv];simp [dv]
