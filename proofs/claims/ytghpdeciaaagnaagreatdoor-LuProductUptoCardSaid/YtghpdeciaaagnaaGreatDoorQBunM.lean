/- What this claim leans on. -/
import Derived.Test.YtghpdeciaaagnaaGreatDoorQBunN
namespace Go.Proofs.YtghpdeciaaagnaaGreatDoor
open Go Go.RowKit
set_option maxHeartbeats 16000000
set_option linter.unusedVariables false
theorem zdN (l:List Nat)(k d:Nat)(h:k<l.length):(l.set k d).take (k+1)=l.take k++[d]:=by
 rw [List.take_succ_eq_append_getElem (by simpa using h)];simp [List.take_set];exact List.set_eq_of_length_le (by simp;omega)
theorem zeW (l:List Nat)(k d:Nat):(l.set k d).drop (k+1)=l.drop (k+1):=by
 rw [List.drop_set,if_pos om9]
theorem Dgs.set_ {b:Nat}{l:List Nat}(h:Dgs b l)(k:Nat){d:Nat}(hd:d<b):Dgs b (l.set k d):=by
 intro e he;rcases List.mem_or_eq_of_mem_set he with h1|h1
 ·exact h e h1
 ·omega
theorem zeS {l m:List Nat}{k:Nat}(h:l.drop k=m.drop k):l.getD k 0=m.getD k 0:=by
 have h1:=congrArg (λl=>l.getD 0 0) h;simpa [List.getD_eq_getElem?_getD,List.getElem?_drop] using h1
theorem zgo {l m:List Nat}{k:Nat}(h:l.drop k=m.drop k):l.drop (k+1)=m.drop (k+1):=by
 have h1:=congrArg (List.drop 1) h;rwa [List.drop_drop,List.drop_drop] at h1
structure ByB (x a b k n:Nat)(L:List Nat)(c:Nat):Prop where
 len:L.length=n
 dgs:Dgs 18446744073709551616 L
 carry:c<18446744073709551616
 rest:L.drop k=(dg 18446744073709551616 x).drop k
 sum:dv 18446744073709551616 (L.take k)+18446744073709551616^k*c=x%18446744073709551616^k*a+b
theorem ByB.start {x a b n:Nat}(hn:(dg 18446744073709551616 x).length=n)(hb:b<18446744073709551616):ByB x a b 0 n (dg 18446744073709551616 x) b:=
 ⟨hn,zcY de9 x,hb,rfl,by simp [dv,Nat.mod_one]⟩
theorem zjv {p q r s:Nat}(hp:p<18446744073709551616)(hq:q<18446744073709551616)(hr:r<18446744073709551616)(hs:s<18446744073709551616):(p*q+r+s) / 18446744073709551616<18446744073709551616:=by
 have h1:p*q<=18446744073709551615*18446744073709551615:=Nat.mul_le_mul om9 om9;omega
theorem ByB.get {x a b k n c:Nat}{L:List Nat}(h:ByB x a b k n L c):L.getD k 0=wd x k:=by rw [zeS h.rest,zeK]
theorem ByB.step {x a b k n c s:Nat}{L:List Nat}(h:ByB x a b k n L c)(ha:a<18446744073709551616)(hk:k<n)(hs:s=wd x k*a+c+0):
  ByB x a b (k+1) n (L.set k (s%18446744073709551616)) (s / 18446744073709551616):=by
 refine⟨by simpa using h.len,h.dgs.set_ k (Nat.mod_lt _ de9),?_,by rw [zeW];exact zgo h.rest,?_⟩
 ·rw [hs];exact zjv (zcs x k) ha h.carry de9
 ·have e:=h.sum;rw [zdN _ _ _ (by rw [h.len];exact hk),zbF,List.length_take,h.len,Nat.min_eq_left om9,zba 18446744073709551616 x k,Nat.pow_succ,Nat.mul_assoc,Nat.add_assoc,<-Nat.mul_add,Nat.mod_add_div,hs];show _=(x%_+18446744073709551616^k*wd x k)*a+b;rw [Nat.add_zero,Nat.mul_add,Nat.add_mul,<-Nat.mul_assoc];omega
theorem ByB.done {x a b n c:Nat}{L:List Nat}(h:ByB x a b n n L c)(hn:(dg 18446744073709551616 x).length<=n):dv 18446744073709551616 (L++[c])=x*a+b:=by
 have e:=h.sum;rw [List.take_of_length_le (by rw [h.len];exact Nat.le_refl _),Nat.mod_eq_of_lt (Nat.lt_of_lt_of_le (zbP de9 x) (Nat.pow_le_pow_right de9 hn))] at e;rw [zbF,h.len,e]
structure RowB (L0:List Nat)(y a i j N:Nat)(L:List Nat)(c:Nat):Prop where
 len:L.length=N
 dgs:Dgs 18446744073709551616 L
 carry:c<18446744073709551616
 rest:L.drop (i+j)=L0.drop (i+j)
 sum:dv 18446744073709551616 (L.take (i+j))+18446744073709551616^(i+j)*c=dv 18446744073709551616 (L0.take (i+j))+18446744073709551616^i*(a*(y%18446744073709551616^j))
theorem RowB.start {L0:List Nat}{N:Nat}(y a i:Nat)(hn:L0.length=N)(hd:Dgs 18446744073709551616 L0):RowB L0 y a i 0 N L0 0:=
 ⟨hn,hd,de9,rfl,by simp [Nat.mod_one]⟩
theorem RowB.step {L0 L:List Nat}{y a i j N c s:Nat}(h:RowB L0 y a i j N L c)(ha:a<18446744073709551616)(hk:i+j<N)(hs:s=wd y j*a+L.getD (i+j) 0+c):
  RowB L0 y a i (j+1) N (L.set (i+j) (s%18446744073709551616)) (s / 18446744073709551616):=by
 have hp:=h.dgs.getD de9 (i+j);refine⟨by simpa using h.len,h.dgs.set_ _ (Nat.mod_lt _ de9),?_,by rw [<-Nat.add_assoc,zeW];exact zgo h.rest,?_⟩
 ·rw [hs];exact zjv (zcs y j) ha hp h.carry
 ·have e:=h.sum;have eg:=zeS h.rest;rw [<-Nat.add_assoc,zdN _ _ _ (by rw [h.len];exact hk),zbF,List.length_take,h.len,Nat.min_eq_left om9,zaW _ L0,<-eg,zba 18446744073709551616 y j,Nat.pow_succ,Nat.mul_assoc,Nat.add_assoc,<-Nat.mul_add,Nat.mod_add_div,hs];obtain⟨p,b⟩:∃p,L.getD (i+j) 0=p:=⟨_,rfl⟩;rw [b];show _=_+18446744073709551616^i*(a*(y%_+18446744073709551616^j*wd y j));rw [Nat.mul_add,Nat.mul_add,Nat.mul_add a,Nat.mul_add (18446744073709551616^i)];have e2:18446744073709551616^i*(a*(18446744073709551616^j*wd y j))=18446744073709551616^(i+j)*(wd y j*a):=by
   rw [Nat.pow_add,Nat.mul_assoc (18446744073709551616^i)];refine congrArg _ ?_;rw [Nat.mul_left_comm,Nat.mul_comm a]
  rw [e2];omega
structure ziT (x y i m N:Nat)(L:List Nat):Prop where
 len:L.length=N
 dgs:Dgs 18446744073709551616 L
 sum:dv 18446744073709551616 (L.take (i+m))=x%18446744073709551616^i*y
theorem ziT.start (x y m N:Nat):ziT x y 0 m N (List.replicate N 0):=by
 refine⟨si9,Dgs.zeros de9 N,?_⟩;rw [List.take_replicate,zeT,Nat.pow_zero,Nat.mod_one,Nat.zero_mul]
theorem ziT.step {x y i m N c:Nat}{L0 L:List Nat}(h0:ziT x y i m N L0)(h:RowB L0 y (wd x i) i m N L c)(hy:(dg 18446744073709551616 y).length<=m)(hk:i+m<N):ziT x y (i+1) m N (L.set (i+m) c):=by
 refine⟨by simpa using h.len,h.dgs.set_ _ h.carry,?_⟩;have e:=h.sum;rw [h0.sum,Nat.mod_eq_of_lt (Nat.lt_of_lt_of_le (zbP de9 y) (Nat.pow_le_pow_right de9 hy))] at e;rw [show i+1+m=i+m+1 from by omega,zdN _ _ _ (by rw [h.len];exact hk),zbF,List.length_take,h.len,Nat.min_eq_left om9,e,zba 18446744073709551616 x i,Nat.add_mul];show _=_+18446744073709551616^i*wd x i*y;rw [Nat.mul_assoc]
theorem ziT.done {x y n m:Nat}{L:List Nat}(h:ziT x y n m (n+m) L)(hx:(dg 18446744073709551616 x).length<=n):dv 18446744073709551616 L=x*y:=by
 have e:=h.sum;rwa [List.take_of_length_le (by rw [h.len];exact Nat.le_refl _),Nat.mod_eq_of_lt (Nat.lt_of_lt_of_le (zbP de9 x) (Nat.pow_le_pow_right de9 hx))] at e
theorem ma_nat (p q r s:Nat):maHi (p:Int) (q:Int) (r:Int) (s:Int)=((p*q+r+s) / 18446744073709551616:Nat)/\maLo (p:Int) (q:Int) (r:Int) (s:Int)=((p*q+r+s)%18446744073709551616:Nat):=by
 unfold maHi maLo;constructor<;>simp
structure ziR (x a k n:Nat)(L:List Nat)(r:Nat):Prop where
 len:L.length=n
 dgs:Dgs 18446744073709551616 L
 rest:r<a
 low:L.take k=(dg 18446744073709551616 x).take k
 sum:dv 18446744073709551616 (L.drop k)*a+r=x / 18446744073709551616^k
theorem ziR.start {x a n:Nat}(hn:(dg 18446744073709551616 x).length=n)(ha:a≠0):ziR x a n n (dg 18446744073709551616 x) 0:=by
 refine⟨hn,zcY de9 x,om9,rfl,?_⟩;have h:=zbP (b:=18446744073709551616) de9 x;rw [hn] at h;rw [List.drop_of_length_le om9,Nat.div_eq_of_lt h];simp [dv]
theorem set_low (l:List Nat)(k d:Nat):(l.set k d).take k=l.take k:=by
 rw [List.take_set];exact List.set_eq_of_length_le (by simp;omega)
theorem znr (l:List Nat)(k d:Nat)(h:k<l.length):(l.set k d).drop k=d::l.drop (k+1):=by
 rw [List.drop_eq_getElem_cons (by simpa using h),zeW];simp
theorem zrq {l m:List Nat}{k:Nat}(h:l.take (k+1)=m.take (k+1)):l.take k=m.take k:=by
 have h1:=congrArg (List.take k) h;rwa [List.take_take,List.take_take,Nat.min_eq_left om9] at h1
theorem take_get {l m:List Nat}{k j:Nat}(h:l.take k=m.take k)(hj:j<k):l.getD j 0=m.getD j 0:=by
 have h1:=congrArg (λl=>l.getD j 0) h;simpa [List.getD_eq_getElem?_getD,List.getElem?_take,hj] using h1
theorem ziR.get {x a k n r:Nat}{L:List Nat}(h:ziR x a k n L r){j:Nat}(hj:j<k):L.getD j 0=wd x j:=by rw [take_get h.low hj,zeK]
theorem ziR.step {x a k n r s:Nat}{L:List Nat}(h:ziR x a (k+1) n L r)(hk:k<n)(hs:s=r*18446744073709551616+wd x k)(ha:a<18446744073709551616):ziR x a k n (L.set k (s / a)) (s%a):=by
 have hw:=zcs x k;have hr:=h.rest;have hq:s / a<18446744073709551616:=by
  refine(Nat.div_lt_iff_lt_mul om9).2 ?_;have:(r+1)*18446744073709551616<=a*18446744073709551616:=Nat.mul_le_mul_right _ hr;rw [Nat.mul_comm _ a];omega
 refine⟨by simpa using h.len,h.dgs.set_ k hq,Nat.mod_lt _ om9,by rw [set_low];exact zrq h.low,?_⟩;have e:=h.sum;have e2:=zhP 18446744073709551616 x k;have e3:=Nat.div_add_mod s a;rw [znr _ _ _ (by rw [h.len];exact hk),dv,e2,<-e];unfold wd at hs;rw [Nat.add_mul,Nat.mul_add,Nat.mul_assoc,Nat.mul_comm (s / a) a];omega
theorem ziR.done {x a n r:Nat}{L:List Nat}(h:ziR x a 0 n L r):dv 18446744073709551616 L=x / a/\r=x%a:=by
 have e:=h.sum;have h3:=h.rest;rw [Nat.pow_zero,Nat.div_one,List.drop_zero] at e;have hm:0<a:=om9;refine⟨?_,?_⟩
 ·rw [<-e,Nat.add_comm,Nat.add_mul_div_right _ _ hm,Nat.div_eq_of_lt h3,Nat.zero_add]
 ·rw [<-e,Nat.add_comm,Nat.add_mul_mod_self_right,Nat.mod_eq_of_lt h3]
structure Two (P D U h v M:Nat):Prop where
 hM:0<M
 hh:18446744073709551616<=2*h
 hb:h<18446744073709551616
 vb:v<18446744073709551616
 D0:(h*18446744073709551616+v)*M<=D
 D1:D<(h*18446744073709551616+v+1)*M
 P0:U*(18446744073709551616*M)<=P
 P1:P<(U+1)*(18446744073709551616*M)
 lt:P<18446744073709551616*D
theorem Two.Dpos {P D U h v M:Nat}(H:Two P D U h v M):0<D:=by
 rcases Nat.eq_zero_or_pos D with e|e
 ·have:=H.lt;rw [e] at this;omega
 ·exact e
theorem Two.q {P D U h v M:Nat}(H:Two P D U h v M):P / D*D<=P/\P<(P / D+1)*D/\P / D<18446744073709551616:=by
 refine⟨Nat.div_mul_le_self P D,?_,(Nat.div_lt_iff_lt_mul H.Dpos).2 (by have:=H.lt;omega)⟩;have:=Nat.lt_div_mul_add (a:=P) H.Dpos;rw [Nat.add_mul,Nat.one_mul];exact this
theorem Two.Dh {P D U h v M:Nat}(H:Two P D U h v M):h*(18446744073709551616*M)<=D/\D<=(h+1)*(18446744073709551616*M):=by
 have h0:=H.D0;have h1:=H.D1;constructor
 ·rw [<-Nat.mul_assoc];exact Nat.le_trans (Nat.mul_le_mul_right M (Nat.le_add_right _ _)) h0
 ·rw [<-Nat.mul_assoc];refine Nat.le_trans (Nat.le_of_lt h1) (Nat.mul_le_mul_right M ?_);have:=H.vb;rw [Nat.add_mul];omega
theorem Two.top {P D U h v M:Nat}(H:Two P D U h v M):U<(h+1)*18446744073709551616:=by
 have h0:=H.P0;have h1:=H.lt;have h2:=H.Dh.2;have h3:18446744073709551616*D<=18446744073709551616*((h+1)*(18446744073709551616*M)):=Nat.mul_le_mul_left _ h2;have h4:U*(18446744073709551616*M)<(h+1)*18446744073709551616*(18446744073709551616*M):=by
  rw [Nat.mul_comm (h+1),Nat.mul_assoc];omega
 exact Nat.lt_of_mul_lt_mul_right h4
theorem Two.le {P D U h v M:Nat}(H:Two P D U h v M):P / D*h<=U:=by
 obtain⟨h0,_,_⟩:=H.q;have h1:=H.P1;have h2:P / D*(h*(18446744073709551616*M))<=P / D*D:=Nat.mul_le_mul_left _ H.Dh.1;rw [<-Nat.mul_assoc] at h2;have h3:P / D*h*(18446744073709551616*M)<(U+1)*(18446744073709551616*M):=om9;have:=Nat.lt_of_mul_lt_mul_right h3;omega
theorem Two.two {P D U h v M t:Nat}(H:Two P D U h v M)(ht:t*h<=U)(tb:t<18446744073709551616):t<=P / D+2:=by
 obtain⟨_,h1,_⟩:=H.q;obtain⟨q,hq⟩:∃q,P / D=q:=⟨_,rfl⟩;rw [hq] at h1⊢;have h2:(q+1)*D<=(q+1)*((h+1)*(18446744073709551616*M)):=Nat.mul_le_mul_left _ H.Dh.2;have h3:t*h*(18446744073709551616*M)<=U*(18446744073709551616*M):=Nat.mul_le_mul_right _ ht;have h4:=H.P0;rw [<-Nat.mul_assoc] at h2;have h5:t*h*(18446744073709551616*M)<(q+1)*(h+1)*(18446744073709551616*M):=om9;have h6:=Nat.lt_of_mul_lt_mul_right h5;have h7:=H.hh;rcases Nat.lt_or_ge (q+2) t with hc|hc
 ·obtain⟨s,rfl⟩:∃s,t=q+1+s:=⟨t - (q+1),om9⟩;have h8:2<=s:=om9;rw [Nat.add_mul (q+1) s h,Nat.mul_add (q+1) h 1,Nat.mul_one] at h6;have h9:2*h<=s*h:=Nat.mul_le_mul_right _ h8;omega
 ·exact hc
theorem Two.dec {P D U h v M t r:Nat}(H:Two P D U h v M)(ht:t*h+r=U)(hv:(r+1)*18446744073709551616<=t*v):P / D+1<=t:=by
 have h1:=H.P1;have h2:t*((h*18446744073709551616+v)*M)<=t*D:=Nat.mul_le_mul_left _ H.D0;have h3:(U+1)*18446744073709551616<=t*(h*18446744073709551616+v):=by
  rw [Nat.mul_add t (h*18446744073709551616) v,<-Nat.mul_assoc t h,<-ht];have:(t*h+r+1)*18446744073709551616=t*h*18446744073709551616+(r+1)*18446744073709551616:=by rw [Nat.add_assoc (t*h) r 1,Nat.add_mul (t*h) (r+1)]
  rw [this];exact Nat.add_le_add_left hv _
 have h4:(U+1)*18446744073709551616*M<=t*(h*18446744073709551616+v)*M:=Nat.mul_le_mul_right _ h3;rw [Nat.mul_assoc (U+1)] at h4;rw [<-Nat.mul_assoc t] at h2;have h5:P<t*D:=om9;exact(Nat.div_lt_iff_lt_mul H.Dpos).2 h5
theorem Two.one {P D U h v M t r:Nat}(H:Two P D U h v M)(ht:t*h+r=U)(tb:t<18446744073709551616)(hv:t*v<(r+1)*18446744073709551616):t<=P / D+1:=by
 obtain⟨_,h1,_⟩:=H.q;obtain⟨q,hq⟩:∃q,P / D=q:=⟨_,rfl⟩;rw [hq] at h1⊢;rcases Nat.lt_or_ge (q+1) t with hc|hc
 ·obtain⟨s,rfl⟩:∃s,t=s+1:=⟨t - 1,om9⟩;have h2:(q+1)*D<=s*D:=Nat.mul_le_mul_right _ om9;have h3:s*D<=s*((h*18446744073709551616+v+1)*M):=Nat.mul_le_mul_left _ (Nat.le_of_lt H.D1);have h4:=H.P0;rw [<-Nat.mul_assoc] at h3 h4;have h5:U*18446744073709551616*M<s*(h*18446744073709551616+v+1)*M:=om9;have h6:=Nat.lt_of_mul_lt_mul_right h5;have h7:=H.hh;have e1:(s+1)*v=s*v+v:=by rw [Nat.add_mul,Nat.one_mul]
  have e2:U*18446744073709551616=s*h*18446744073709551616+h*18446744073709551616+r*18446744073709551616:=by
   rw [<-ht,Nat.add_mul s 1 h,Nat.one_mul,Nat.add_mul (s*h+h) r,Nat.add_mul (s*h) h]
  have e3:s*(h*18446744073709551616+v+1)=s*h*18446744073709551616+s*v+s:=by
   rw [Nat.mul_add s (h*18446744073709551616+v) 1,Nat.mul_add s (h*18446744073709551616) v,<-Nat.mul_assoc s h,Nat.mul_one]
  rw [e1,Nat.add_mul r 1,Nat.one_mul] at hv;rw [e2,e3] at h6;omega
 ·exact hc
theorem zla (T E x y:Nat):T+E*y+E*18446744073709551616*x=T+(x*18446744073709551616+y)*E:=by
 rw [Nat.add_mul (x*18446744073709551616) y E,Nat.mul_comm E y,Nat.mul_assoc x 18446744073709551616 E,Nat.mul_comm 18446744073709551616 E,Nat.mul_comm x];omega
theorem two_of {p Ld:List Nat}{m:Nat}(hp:Dgs 18446744073709551616 p)(hd:Dgs 18446744073709551616 Ld)(c:p.length=m+3)(a:Ld.length=m+2)
  (hh:18446744073709551616<=2*Ld.getD (m+1) 0) (b:dv 18446744073709551616 p<18446744073709551616*dv 18446744073709551616 Ld):
  Two (dv 18446744073709551616 p) (dv 18446744073709551616 Ld) (p.getD (m+2) 0*18446744073709551616+p.getD (m+1) 0) (Ld.getD (m+1) 0) (Ld.getD m 0) (18446744073709551616^m):=by
 have hM:0<18446744073709551616^m:=Nat.pow_pos de9;have b1:=hd.getD de9 (m+1);have b2:=hd.getD de9 m;have c1:=hp.getD de9 (m+2);have c2:=hp.getD de9 (m+1);have d0:dv 18446744073709551616 Ld=dv 18446744073709551616 (Ld.take m)+(Ld.getD (m+1) 0*18446744073709551616+Ld.getD m 0)*18446744073709551616^m:=by
  have e:=zaW 18446744073709551616 Ld (m+1);rw [List.take_of_length_le om9,zaW 18446744073709551616 Ld m,Nat.pow_succ] at e;rw [e];exact zla _ _ _ _
 have l0:dv 18446744073709551616 (Ld.take m)<18446744073709551616^m:=by
  have:=zcP (hd.take m);rwa [List.length_take,a,Nat.min_eq_left om9] at this
 have p0:dv 18446744073709551616 p=dv 18446744073709551616 (p.take (m+1))+(p.getD (m+2) 0*18446744073709551616+p.getD (m+1) 0)*(18446744073709551616*18446744073709551616^m):=by
  have e:=zaW 18446744073709551616 p (m+2);rw [List.take_of_length_le om9,zaW 18446744073709551616 p (m+1),Nat.pow_succ _ (m+1)] at e;rw [e,<-Nat.pow_succ'];exact zla _ _ _ _
 have l1:dv 18446744073709551616 (p.take (m+1))<18446744073709551616*18446744073709551616^m:=by
  have:=zcP (hp.take (m+1));rwa [List.length_take,c,Nat.min_eq_left om9,Nat.pow_succ'] at this
 refine⟨hM,hh,b1,b2,om9,?_,om9,?_,b⟩
 ·rw [Nat.add_mul _ 1,Nat.one_mul];omega
 ·rw [Nat.add_mul _ 1,Nat.one_mul];omega
structure zhd (p0 D:List Nat)(t i:Nat)(p:List Nat)(c b:Nat):Prop where
 len:p.length=p0.length
 dgs:Dgs 18446744073709551616 p
 carry:c<18446744073709551616
 lack:b<=1
 rest:p.drop i=p0.drop i
 sum:dv 18446744073709551616 (p.take i)+t*dv 18446744073709551616 (D.take i)=dv 18446744073709551616 (p0.take i)+18446744073709551616^i*(c+b)
theorem zhd.start {p0:List Nat}(D:List Nat)(t:Nat)(hd:Dgs 18446744073709551616 p0):zhd p0 D t 0 p0 0 0:=⟨rfl,hd,de9,de9,rfl,by simp [dv]⟩
theorem zhd.step {p0 D p:List Nat}{t i c b s d b':Nat}(h:zhd p0 D t i p c b)(ht:t<18446744073709551616)(hD:Dgs 18446744073709551616 D)(hi:i<p0.length)(hs:s=D.getD i 0*t+c+0)(hd:d<18446744073709551616)(hb:b'<=1)
  (hx:d+s%18446744073709551616+b=p.getD i 0+18446744073709551616*b'):zhd p0 D t (i+1) (p.set i d) (s / 18446744073709551616) b':=by
 have hw:=hD.getD de9 i;refine⟨by simpa using h.len,h.dgs.set_ i hd,by rw [hs];exact zjv hw ht h.carry de9,hb,by rw [zeW];exact zgo h.rest,?_⟩;have e:=h.sum;have eg:=zeS h.rest;have em:=Nat.mod_add_div s 18446744073709551616;rw [eg] at hx;rw [zdN _ _ _ (by rw [h.len];exact hi),zbF,List.length_take,h.len,Nat.min_eq_left om9,zaW _ p0,zaW _ D,Nat.pow_succ,Nat.mul_add t,Nat.mul_assoc (18446744073709551616^i)];have e2:t*(18446744073709551616^i*D.getD i 0)=18446744073709551616^i*(D.getD i 0*t):=by rw [Nat.mul_left_comm,Nat.mul_comm t]
 have e3:18446744073709551616^i*d+18446744073709551616^i*(D.getD i 0*t)+18446744073709551616^i*(c+b)=18446744073709551616^i*p0.getD i 0+18446744073709551616^i*(18446744073709551616*(s / 18446744073709551616+b')):=by
  rw [<-Nat.mul_add,<-Nat.mul_add,<-Nat.mul_add];refine congrArg _ ?_;rw [Nat.mul_add];omega
 rw [e2];omega
theorem zhd.last {p0 D p:List Nat}{t i c b d b':Nat}(h:zhd p0 D t i p c b)(hi:i+1=p0.length)(hD:D.length=i)(hd:d<18446744073709551616)(hb:b'<=1)
  (hx:d+c+b=p.getD i 0+18446744073709551616*b'):(p.set i d).length=p0.length/\Dgs 18446744073709551616 (p.set i d)/\dv 18446744073709551616 (p.set i d)+t*dv 18446744073709551616 D=dv 18446744073709551616 p0+18446744073709551616^p0.length*b':=by
 refine⟨by simpa using h.len,h.dgs.set_ i hd,?_⟩;have e:=h.sum;rw [zeS h.rest] at hx;have f1:dv 18446744073709551616 (p.set i d)=dv 18446744073709551616 (p.take i)+18446744073709551616^i*d:=by
  have:=zdN p i d (by rw [h.len];omega);rw [List.take_of_length_le (by simp [h.len];omega)] at this;rw [this,zbF,List.length_take,h.len,Nat.min_eq_left om9]
 have f2:dv 18446744073709551616 p0=dv 18446744073709551616 (p0.take i)+18446744073709551616^i*p0.getD i 0:=by
  have:=zaW 18446744073709551616 p0 i;rwa [List.take_of_length_le om9] at this
 rw [List.take_of_length_le (l:=D) om9] at e;rw [f1,f2,<-hi,Nat.pow_succ,Nat.mul_assoc];have e3:18446744073709551616^i*d+18446744073709551616^i*(c+b)=18446744073709551616^i*p0.getD i 0+18446744073709551616^i*(18446744073709551616*b'):=by
  rw [<-Nat.mul_add,<-Nat.mul_add];refine congrArg _ ?_;omega
 omega
theorem zpd {P D t X E b':Nat}(ht:t=P / D)(hD:0<D)(hX:X<E)(e:X+t*D=P+E*b')(hb:b'<=1):b'=0/\X=P%D:=by
 have h1:=Nat.div_mul_le_self P D;have h2:=Nat.div_add_mod' P D;rw [ht] at e;rcases (show b'=0\/b'=1 by omega) with rfl|rfl
 ·exact⟨rfl,om9⟩
 ·omega
theorem zrr {P D t X E b':Nat}(ht:t=P / D+1)(hD:0<D)(hP:P<E)(hX:X<E)(e:X+t*D=P+E*b')(hb:b'<=1):b'=1/\X+D=E+P%D:=by
 have h2:=Nat.div_add_mod' P D;have h3:=Nat.mod_lt P hD;rw [ht,Nat.add_mul,Nat.one_mul] at e;rcases (show b'=0\/b'=1 by omega) with rfl|rfl
 ·omega
 ·exact⟨rfl,om9⟩
structure zgZ (p0 D:List Nat)(i:Nat)(p:List Nat)(c:Nat):Prop where
 len:p.length=p0.length
 dgs:Dgs 18446744073709551616 p
 carry:c<=1
 rest:p.drop i=p0.drop i
 sum:dv 18446744073709551616 (p.take i)+18446744073709551616^i*c=dv 18446744073709551616 (p0.take i)+dv 18446744073709551616 (D.take i)
theorem zgZ.start {p0:List Nat}(D:List Nat)(hd:Dgs 18446744073709551616 p0):zgZ p0 D 0 p0 0:=⟨rfl,hd,de9,rfl,by simp [dv]⟩
theorem zgZ.step {p0 D p:List Nat}{i c s:Nat}(h:zgZ p0 D i p c)(hD:Dgs 18446744073709551616 D)(hi:i<p0.length)(hs:s=p.getD i 0+D.getD i 0+c):zgZ p0 D (i+1) (p.set i (s%18446744073709551616)) (s / 18446744073709551616):=by
 have hw:=hD.getD de9 i;have hv:=h.dgs.getD de9 i;have hc:=h.carry;refine⟨by simpa using h.len,h.dgs.set_ i (Nat.mod_lt _ de9),om9,by rw [zeW];exact zgo h.rest,?_⟩;have e:=h.sum;rw [zeS h.rest] at hs;rw [zdN _ _ _ (by rw [h.len];exact hi),zbF,List.length_take,h.len,Nat.min_eq_left om9,zaW _ p0,zaW _ D,Nat.pow_succ,Nat.mul_assoc,Nat.add_assoc,<-Nat.mul_add,Nat.mod_add_div,hs,Nat.mul_add,Nat.mul_add];omega
theorem zgZ.last {p0 D p:List Nat}{i c s:Nat}(h:zgZ p0 D i p c)(hi:i+1=p0.length)(hD:D.length=i)(hs:s=p.getD i 0+0+c):
  (p.set i (s%18446744073709551616)).length=p0.length/\Dgs 18446744073709551616 (p.set i (s%18446744073709551616))/\dv 18446744073709551616 (p.set i (s%18446744073709551616))=(dv 18446744073709551616 p0+dv 18446744073709551616 D)%18446744073709551616^p0.length:=by
 have b:=h.dgs.set_ i (Nat.mod_lt s (show 0<18446744073709551616 by decide));have a:(p.set i (s%18446744073709551616)).length=p0.length:=by simpa using h.len
 refine⟨a,b,?_⟩;have hv:=h.dgs.getD de9 i;have hc:=h.carry;have e:=h.sum;rw [zeS h.rest] at hs;have f1:dv 18446744073709551616 (p.set i (s%18446744073709551616))=dv 18446744073709551616 (p.take i)+18446744073709551616^i*(s%18446744073709551616):=by
  have:=zdN p i (s%18446744073709551616) (by rw [h.len];omega);rw [List.take_of_length_le (by rw [a];omega)] at this;rw [this,zbF,List.length_take,h.len,Nat.min_eq_left om9]
 have f2:dv 18446744073709551616 p0=dv 18446744073709551616 (p0.take i)+18446744073709551616^i*p0.getD i 0:=by
  have:=zaW 18446744073709551616 p0 i;rwa [List.take_of_length_le om9] at this
 rw [List.take_of_length_le (l:=D) om9] at e;have f3:dv 18446744073709551616 p0+dv 18446744073709551616 D=dv 18446744073709551616 (p.set i (s%18446744073709551616))+18446744073709551616^p0.length*(s / 18446744073709551616):=by
  rw [f1,f2,<-hi,Nat.pow_succ,Nat.mul_assoc,Nat.add_assoc (dv 18446744073709551616 (p.take i)),<-Nat.mul_add,Nat.mod_add_div,hs,Nat.add_zero,Nat.mul_add];omega
 have f4:=zcP b;rw [a] at f4;rw [f3,Nat.add_mul_mod_self_left,Nat.mod_eq_of_lt f4]
theorem znS {X D E R:Nat}(h:X+D=E+R)(hR:R<D)(hX:X<E)(hDE:D<=E):(X+D)%E=R:=by
 rw [h,Nat.add_mod_left,Nat.mod_eq_of_lt om9]
structure zfI (X D m k n:Nat)(L Q:List Nat):Prop where
 len:L.length=m+n
 dgs:Dgs 18446744073709551616 L
 qlen:Q.length=n
 qdgs:Dgs 18446744073709551616 Q
 small:dv 18446744073709551616 (L.drop k)<D
 sum:dv 18446744073709551616 (Q.drop k)*D*18446744073709551616^k+dv 18446744073709551616 L=X
theorem zfI.cut {X D m k n:Nat}{L Q:List Nat}(h:zfI X D m (k+1) n L Q)(hk:k<n)(hD:D<18446744073709551616^m):
  ∃A p C,L=A++p++C/\A.length=k/\p.length=m+1/\Dgs 18446744073709551616 p/\dv 18446744073709551616 p=dv 18446744073709551616 (L.drop k)/\dv 18446744073709551616 p<18446744073709551616*D/\dv 18446744073709551616 C=0:=by
 have hl:=h.len;have hd:=h.dgs;refine⟨L.take k,(L.drop k).take (m+1),(L.drop k).drop (m+1),by rw [List.append_assoc,List.take_append_drop,List.take_append_drop],by simp;omega,by simp;omega,(hd.drop k).take _,?_,?_,?_⟩
 all_goals
  have h1:=h.small
  have e1:dv 18446744073709551616 (L.drop (k+1))=dv 18446744073709551616 (L.drop k) / 18446744073709551616:=by
   have:=zgp (b:=18446744073709551616) de9 (hd.drop k) 1;rwa [List.drop_drop,Nat.pow_one] at this
  rw [e1] at h1
  have h2:dv 18446744073709551616 (L.drop k)<18446744073709551616*D:=om9
  have h3:dv 18446744073709551616 (L.drop k)<18446744073709551616^(m+1):=by
   rw [Nat.pow_succ];omega
 ·rw [zps de9 (hd.drop k),Nat.mod_eq_of_lt h3]
 ·rw [zps de9 (hd.drop k),Nat.mod_eq_of_lt h3];exact h2
 ·rw [zgp de9 (hd.drop k),Nat.div_eq_of_lt h3]
theorem zfI.step {X D m k n:Nat}{A p C Q p':List Nat}(h:zfI X D m (k+1) n (A++p++C) Q)(hA:A.length=k)(hp:p.length=m+1)(hC:dv 18446744073709551616 C=0)(hk:k<n)(hp':p'.length=m+1)(a:Dgs 18446744073709551616 p')
  (hv:dv 18446744073709551616 p'=dv 18446744073709551616 p%D) (hq:dv 18446744073709551616 p / D<18446744073709551616) (hD:0<D):zfI X D m k n (A++p'++C) (Q.set k (dv 18446744073709551616 p / D)):=by
 have hl:=h.len;have hd:=h.dgs;have d1:Dgs 18446744073709551616 A:=λd m=>hd d (by simp [m]);have d2:Dgs 18446744073709551616 C:=λd m=>hd d (by simp [m]);have e:=h.sum;rw [zbA,zbA,hC,Nat.mul_zero,Nat.add_zero] at e;refine⟨by simp at hl⊢;omega,(d1.append a).append d2,by simpa using h.qlen,h.qdgs.set_ k hq,?_,?_⟩
 ·rw [List.append_assoc,List.drop_append_of_le_length om9,List.drop_of_length_le om9,List.nil_append,zbA,hC,Nat.mul_zero,Nat.add_zero,hv];exact Nat.mod_lt _ hD
 ·rw [zbA,zbA,hC,Nat.mul_zero,Nat.add_zero,hv,znr _ _ _ (by rw [h.qlen];exact hk),dv,<-e,hA];have e3:=Nat.div_add_mod' (dv 18446744073709551616 p) D;obtain⟨P,hP⟩:∃P,dv 18446744073709551616 p=P:=⟨_,rfl⟩;obtain⟨T,hT⟩:∃T,dv 18446744073709551616 (Q.drop (k+1))=T:=⟨_,rfl⟩;obtain⟨E,hE⟩:∃E,18446744073709551616^k=E:=⟨_,rfl⟩;rw [hP] at e3⊢;rw [Nat.pow_succ,hE,hT];have f1:(P / D+18446744073709551616*T)*D*E=P / D*D*E+T*D*(E*18446744073709551616):=by
   rw [Nat.add_mul,Nat.add_mul];refine congrArg _ ?_;rw [Nat.mul_comm 18446744073709551616 T,Nat.mul_right_comm T,Nat.mul_assoc (T*D),Nat.mul_comm 18446744073709551616 E]
  have f2:E*P=E*(P / D*D)+E*(P%D):=by rw [<-Nat.mul_add,e3]
  rw [f1,f2,Nat.mul_comm (P / D*D) E];omega
theorem zfI.done {X D m n:Nat}{L Q:List Nat}(h:zfI X D m 0 n L Q):dv 18446744073709551616 Q=X / D/\dv 18446744073709551616 L=X%D:=by
 have e:=h.sum;have h3:=h.small;rw [List.drop_zero] at h3;rw [List.drop_zero,Nat.pow_zero,Nat.mul_one] at e;have hm:0<D:=om9;refine⟨?_,?_⟩
 ·rw [<-e,Nat.add_comm,Nat.add_mul_div_right _ _ hm,Nat.div_eq_of_lt h3,Nat.zero_add]
 ·rw [<-e,Nat.add_comm,Nat.add_mul_mod_self_right,Nat.mod_eq_of_lt h3]
theorem zfI.start {X D m n:Nat}{L:List Nat}(hl:L.length=m+n)(hd:Dgs 18446744073709551616 L)(hv:dv 18446744073709551616 L=X)(hs:X / 18446744073709551616^n<D):zfI X D m n n L (List.replicate n 0):=by
 refine⟨hl,hd,si9,Dgs.zeros de9 n,by rw [zgp de9 hd,hv];exact hs,?_⟩;rw [List.drop_of_length_le si9,hv];simp [dv]
