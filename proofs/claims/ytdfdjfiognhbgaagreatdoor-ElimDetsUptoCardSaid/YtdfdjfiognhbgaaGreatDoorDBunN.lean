/- What this claim leans on. -/
import Derived.Test.YtdfdjfiognhbgaaGreatDoorDBunE
import Derived.ChangeArms
import Derived.ChangeOld
import Derived.Lib.SmallJoins
import Derived.OpenShut
import Derived.ProofKit
set_option linter.unusedVariables false
set_option linter.unusedSimpArgs false
namespace Go.Proofs.YtdfdjfiognhbgaaGreatDoor
open Go Go.RowKit Go.Proofs.Tryz
set_option maxHeartbeats 16000000
variable {cs:Array Value}{d:List Int}{K K' a b c g i k m n x y:Nat}{t:TypeId}{v:Value}{w w' w1:World}
structure vE (x y k:Nat)(out:List Nat)(c:Nat):Prop where
 len:out.length=k
 dgs:zD 18446744073709551616 out
 carry:c<=1
 sum:x%18446744073709551616^k+y%18446744073709551616^k=dv 18446744073709551616 out+18446744073709551616^k*c
theorem vE.start (x y:Nat):vE x y 0 [] 0:=⟨rfl,by intro d hd;simp at hd,zb,by simp [dv,xT]⟩
theorem vE.step {s:Nat}{a:List Nat}(h:vE x y k a c)(hs:s=wd x k+wd y k+c):vE x y (k+1) (a++[s%18446744073709551616]) (s / 18446744073709551616):=by
 have h1:=wF x k;have h2:=wF y k;have h3:=h.carry;refine⟨by simp [h.len],h.dgs.append (by intro d hd;simp at hd;subst hd;exact QH _ zg),zb,?_⟩;have e:=h.sum;unfold wd at hs;rw [vO 18446744073709551616 x k,vO 18446744073709551616 y k,vA,h.len,qP,qG,xE (dv 18446744073709551616 a),<-qC,XS,hs,qC,qC];omega
theorem vE.done {a:List Nat}(h:vE x y (k+1) a c)(hx:(dg 18446744073709551616 x).length<=k)(hy:(dg 18446744073709551616 y).length<=k):dv 18446744073709551616 a=x+y:=by
 have e:=h.sum;have h1:x<18446744073709551616^k:=qJ (ym zg x) (qV zg hx);have h2:y<18446744073709551616^k:=qJ (ym zg y) (qV zg hy);rw [qP] at e;rw [qO zb,qO zb] at e;have h3:=h.carry;have h4:c=0\/c=1:=zb;rcases h4 with rfl|rfl
 ·omega
 ·omega
theorem We (hc:c<=1):uw (a:Int) (b:Int) (c:Int)=(((a+b+c)%18446744073709551616:Nat):Int):=by unfold uw;omega
theorem Wc (hc:c<=1):uv (a:Int) (b:Int) (c:Int)=(((a+b+c) / 18446744073709551616:Nat):Int):=by unfold uv;omega
structure vH (x y k:Nat)(out:List Nat)(c:Nat):Prop where
 len:out.length=k
 dgs:zD 18446744073709551616 out
 lack:c<=1
 sum:dv 18446744073709551616 out+y%18446744073709551616^k=x%18446744073709551616^k+18446744073709551616^k*c
theorem vH.start (x y:Nat):vH x y 0 [] 0:=⟨rfl,by intro d hd;simp at hd,zb,by simp [dv,xT]⟩
theorem vH.step {d c':Nat}{a:List Nat}(h:vH x y k a c)(hd:d<18446744073709551616)(hc:c'<=1)(hs:d+wd y k+c=wd x k+18446744073709551616*c'):vH x y (k+1) (a++[d]) c':=by
 refine⟨by simp [h.len],h.dgs.append (by intro e he;simp at he;subst he;exact hd),hc,?_⟩;have e:=h.sum;have e2:18446744073709551616^k*d+18446744073709551616^k*(y / 18446744073709551616^k%18446744073709551616)+18446744073709551616^k*c=18446744073709551616^k*(x / 18446744073709551616^k%18446744073709551616)+18446744073709551616^k*(18446744073709551616*c'):=by
  unfold wd at hs;rw [<-qC,<-qC,hs,qC]
 rw [vO 18446744073709551616 x k,vO 18446744073709551616 y k,vA,h.len,qP,qG (18446744073709551616^k) 18446744073709551616 c'];omega
theorem vH.done {a:List Nat}(h:vH x y k a c)(d:y<=x)(hx:(dg 18446744073709551616 x).length<=k):dv 18446744073709551616 a=x - y:=by
 have e:=h.sum;have h1:x<18446744073709551616^k:=qJ (ym zg x) (qV zg hx);have h3:=vg h.dgs;rw [h.len] at h3;rw [qO h1,qO (QU d h1)] at e;have h4:=h.lack;have:c=0\/c=1:=zb;rcases this with rfl|rfl<;>omega
theorem Zv (ha:a<18446744073709551616)(hb:b<18446744073709551616)(hc:c<=1):
  ∃d c':Nat,oe (a:Int) (b:Int) (c:Int)=(d:Int)/\od (a:Int) (b:Int) (c:Int)=(c':Int)/\d<18446744073709551616/\c'<=1/\d+b+c=a+18446744073709551616*c':=by
 refine⟨((a:Int) - b - c).emod 18446744073709551616|>.toNat,if a<b+c then 1 else 0,?_,?_,?_,?_,?_⟩
 ·unfold oe;show((a:Int) - b - (c:Int)%2)%18446744073709551616=((((a:Int) - b - c)%18446744073709551616).toNat:Int);omega
 ·unfold od;split<;>split<;>omega
 ·show(((a:Int) - b - c)%18446744073709551616).toNat<_;omega
 ·split<;>omega
 ·show(((a:Int) - b - c)%18446744073709551616).toNat+b+c=_;split<;>omega
theorem Zl (cs:Array Value)(k:Nat)(u:Value)(h:k<cs.size):(cs.setIfInBounds k u).toList.take (k+1)=cs.toList.take k++[u]:=by
 rw [xH,qE (by simpa using h)];simp [jZ];exact List.set_eq_of_length_le (by simp;omega)
theorem fa (K:IntKind)(l:List Nat)(d:Nat):zq K (l++[d])=zq K l++[.int K (d:Int)]:=by simp [zq]
theorem ju {l:List Nat}(h:zh w g t cs)(hn:cs.size=n)(hv:cs.toList.take n=zq .u64 l)(hl:l.length=n):zH w w.heap.size 1 (some ⟨g,0,none⟩) n (zq .u64 l):=by
 refine⟨by rw [wt];omega,λ_=>⟨_,rfl,h.lt,λj u hu=>?_⟩⟩;have e:(⟨g,0,none⟩:Addr).add j=⟨g,j,none⟩:=by unfold Addr.add;split<;>simp_all
 rw [e,h.cell j,<-QM];rw [qU (by simp;omega)] at hv;rw [hv];exact hu
theorem zf (hb:Below w.heap.size w w')(h:zh w g t cs):zh w' g t cs:=h.below hb h.lt
theorem yq {g0:Nat}{t0:TypeId}{cs0:Array Value}{g1:Nat}{t1:TypeId}{cs1:Array Value}(hb:Below w.heap.size w w')(h0:zh w g0 t0 cs0)(h1:zh w g1 t1 cs1):zh w' g0 t0 cs0/\zh w' g1 t1 cs1:=⟨zf hb h0,zf hb h1⟩
theorem zw (w:World)(t:TypeId)(a:Array Value):Below w.heap.size w (w.alloc (.cells a t))/\zh (w.alloc (.cells a t)) w.heap.size t a/\w.heap.size+1<=(w.alloc (.cells a t)).heap.size:=
 ⟨(qZ _ w).alloc (qY _) _,zh.new w t a,zE⟩
theorem zX (w:World)(t s:TypeId)(a b:Array Value):Below w.heap.size w ((w.alloc (.cells a t)).alloc (.cells b s))/\zh ((w.alloc (.cells a t)).alloc (.cells b s)) w.heap.size t a/\zh ((w.alloc (.cells a t)).alloc (.cells b s)) (w.heap.size+1) s b/\w.heap.size+2<=((w.alloc (.cells a t)).alloc (.cells b s)).heap.size:=by
 obtain⟨h1,h2,h3⟩:=zw w t a;have h4:=zh.new (w.alloc (.cells a t)) s b;have e:(w.alloc (.cells a t)).heap.size=w.heap.size+1:=zE;rw [e] at h4;exact⟨h1.alloc h1.size _,h2.alloc _,h4,zE⟩
theorem yn (w:World)(t s r:TypeId)(a b c:Array Value):Below w.heap.size w (((w.alloc (.cells a t)).alloc (.cells b s)).alloc (.cells c r))/\zh (((w.alloc (.cells a t)).alloc (.cells b s)).alloc (.cells c r)) w.heap.size t a/\zh (((w.alloc (.cells a t)).alloc (.cells b s)).alloc (.cells c r)) (w.heap.size+1) s b/\zh (((w.alloc (.cells a t)).alloc (.cells b s)).alloc (.cells c r)) (w.heap.size+1+1) r c/\w.heap.size+3<=(((w.alloc (.cells a t)).alloc (.cells b s)).alloc (.cells c r)).heap.size:=by
 obtain⟨h1,h2,h3,h4⟩:=zX w t s a b;have h5:=zh.new ((w.alloc (.cells a t)).alloc (.cells b s)) r c;have e:((w.alloc (.cells a t)).alloc (.cells b s)).heap.size=w.heap.size+2:=zE;rw [e] at h5;exact⟨h1.alloc h1.size _,h2.alloc _,h3.alloc _,h5,zE⟩
theorem xt {p:Addr}(o:Obj)(h:w1.cell? p=some v):(w1.alloc o).cell? p=some v:=(World.cell?_alloc_lt w1 o p (xQ w1 p h)).trans h
theorem xk (o:Obj)(h:Below w.heap.size w w1):Below w.heap.size w (w1.alloc o):=h.alloc h.size o
theorem zR {p q:Addr}(u:Value)(hp:p.block≠q.block)(h:w1.cell? p=some v):(w1.setCell q u).cell? p=some v:=(XP w1 q p u (λe=>hp (by first|rw [e]|rw [<-e]))).trans h
theorem zz {p:Addr}(u:Value)(hp:w.heap.size<=p.block)(h:Below w.heap.size w w1):Below w.heap.size w (w1.setCell p u):=h.setCell hp u
theorem eJ {wr:World}{gs p:Nat}{A1:ze}{c1:Nat}(hB:Below w.heap.size w wr)(hp:w.heap.size<=p)(hg:p≠gs)(hr:zH wr wr.heap.size 1 A1 (dg 18446744073709551616 x).length (zq .u64 (dg 18446744073709551616 x)))(h1:(dg 18446744073709551616 x).length<=c1)(h2:c1<=9223372036854775807)
  (hA:A1=some ⟨gs,0,none⟩\/A1=none) (a:w.heap.size<=gs) (u:Value):Below w.heap.size w (wr.setCell ⟨p,0,none⟩ u)/\zn (wr.setCell ⟨p,0,none⟩ u) x A1 (dg 18446744073709551616 x).length c1/\tN w A1:=
 ⟨hB.setCell hp u,ke ⟨hr,h1,h2⟩ (λad e=>by
  rcases hA with h|h
  ·rw [h] at e;injection e with e;subst e;exact λe2=>hg e2.symm
  ·rw [h] at e;cases e) u,λad e=>by
  rcases hA with h|h
  ·rw [h] at e;injection e with e;subst e;exact a
  ·rw [h] at e;cases e⟩
theorem fu {a:Value}(h:zh w g t #[a])(u:Value):zh (w.setCell ⟨g,0,none⟩ u) g t #[u]:=h.set_ 0 u
def xg (w:World)(g:Nat)(v:Value):Prop:=∃t,zh w g t #[v]
theorem zh.one {t:TypeId}(h:zh w g t #[v]):xg w g v:=⟨t,h⟩
theorem xg.cell {w:World}{g:Nat}{v:Value}(h:xg w g v):w.cell? ⟨g,0,none⟩=some v:=by obtain⟨t,h⟩:=h;exact h.cell 0
theorem xg.frozen (h:xg w g v):w.frozen? ⟨g,0,none⟩=false:=by obtain⟨t,h⟩:=h;exact h.frozen 0
theorem xg.new (w:World)(t:TypeId)(v:Value):xg (w.alloc (.cells #[v] t)) w.heap.size v:=⟨t,zh.new w t _⟩
theorem xg.alloc (h:xg w g v)(o:Obj):xg (w.alloc o) g v:=by obtain⟨t,h⟩:=h;exact⟨t,h.alloc o⟩
theorem xg.drew (h:xg w g v):xg w.drew g v:=h
theorem xg.set_ (h:xg w g v)(u:Value):xg (w.setCell ⟨g,0,none⟩ u) g u:=by obtain⟨t,h⟩:=h;exact⟨t,fu h u⟩
theorem xg.far (h:xg w g v){p:Addr}(hp:g≠p.block)(u:Value):xg (w.setCell p u) g v:=by obtain⟨t,h⟩:=h;exact⟨t,h.far hp u⟩
theorem xg.keep {w':World}(h:xg w g v)(hb:Below w.heap.size w w'):xg w' g v:=by obtain⟨t,h⟩:=h;exact⟨t,zf hb h⟩
theorem xg.lt (h:xg w g v):g<w.heap.size:=by obtain⟨t,h⟩:=h;exact h.lt
def iL (w:World)(x:Nat)(b:Bool)(e:Ending)(w':World):Prop:=∃(A:ze) (n c:Nat),e=.returned (.tuple #[.agg #[.slice A n c],.bool b])/\zn w' x A n c/\Below w.heap.size w w'/\tN w A
theorem bI (w:World):zn w 0 none 0 0:=⟨zH.none_,qY _,zb⟩
theorem ZC (h:y<=x):0<=z7 x y:=by
 unfold z7;rw [if_neg zb]
 split<;>omega
def tr:Nat->Nat->List Int
 |0,_=>[]
 |n+1,x=>((x%2:Nat):Int)::tr n (x / 2)
def bv:List Int->Int
 |[]=>0
 |b::l=>b+2*bv l
def vF (b:Int):Prop:=0<=b/\b<=1
def sn (l:List Int):Prop:=∀b ∈ l,vF b
theorem Yo:∀n x,(tr n x).length=n
 |0,_=>rfl
 |n+1,x=>by simp [tr,Yo n]
theorem Xu:∀n x,sn (tr n x)
 |0,_=>by intro b hb;simp [tr] at hb
 |n+1,x=>by
   intro b hb;simp only [tr,List.mem_cons] at hb;rcases hb with rfl|hb
   ·unfold vF;omega
   ·exact Xu n _ b hb
theorem VN:∀n x,bv (tr n x)=((x%2^n:Nat):Int)
 |0,x=>by simp [tr,bv,xT]
 |n+1,x=>by
   rw [tr,bv,VN n (x / 2)];have h:x%2^(n+1)=x%2+2*(x / 2%2^n):=by
    rw [qP,qS (2^n) 2,Nat.mod_mul]
   omega
theorem eu:∀(l m:List Int),bv (l++m)=bv l+2^l.length*bv m
 |[],m=>by simp [bv]
 |b::l,m=>by
   rw [YD,bv,bv,eu l m,xP,Int.pow_succ,Int.mul_add,yP (2^l.length) 2,Int.mul_assoc];omega
theorem tf:∀{l:List Int},sn l->0<=bv l/\bv l<2^l.length
 |[],_=>by simp [bv]
 |b::l,h=>by
   have h1:=h b zE;have h2:=tf (l:=l) (λc hc=>h c (by simp [hc]));unfold vF at h1;rw [bv,xP,Int.pow_succ];omega
theorem Zz:∀{l:List Int},sn l->l=tr l.length (bv l).toNat
 |[],_=>rfl
 |b::l,h=>by
   have h1:=h b zE;have h0:sn l:=λc hc=>h c (by simp [hc]);have h2:=tf h0;have e:=Zz h0;unfold vF at h1;rw [xP,tr,bv];have e1:(b+2*bv l).toNat%2=b.toNat:=zb;have e2:(b+2*bv l).toNat / 2=(bv l).toNat:=zb;rw [e1,e2,<-e];congr 1;omega
theorem Qu (n x:Nat):tr n (x%2^n)=tr n x:=by
 have h:=Zz (Xu n x);rw [Yo,VN,Int.toNat_natCast] at h;exact h.symm
theorem YF {l m:List Int}(hl:sn l)(hm:sn m):sn (l++m):=by
 intro b hb;rcases List.mem_append.1 hb with h|h
 ·exact hl b h
 ·exact hm b h
theorem Yp (l:List Int)(k:Nat):bv (l.take (k+1))=bv (l.take k)+2^k*l.getD k 0:=by
 by_cases h:k<l.length
 ·rw [qE h,eu,qB,xZ zb];simp [bv,List.getD,qX h]
 ·rw [qU zb,qU zb,qQ,QG zb];simp
theorem VA {l:List Int}(h:sn l)(k:Nat):vF (l.getD k 0):=by
 by_cases hk:k<l.length
 ·exact h _ (by rw [qQ,qX hk];exact xS hk)
 ·rw [qQ,QG zb];unfold vF;simp
structure ib (a b:List Int)(k:Nat)(out:List Int)(c:Int):Prop where
 len:out.length=k
 bits:sn out
 carry:vF c
 sum:bv (a.take k)+bv (b.take k)=bv out+2^k*c
theorem ib.start (a b:List Int):ib a b 0 [] 0:=⟨rfl,by intro x hx;simp at hx,by unfold vF;omega,by simp [bv]⟩
theorem ib.step {a b d:List Int}{c s:Int}(h:ib a b k d c)(ha:sn a)(hb:sn b)(hs:s=c+a.getD k 0+b.getD k 0):ib a b (k+1) (d++[s%2]) (s / 2):=by
 have h1:=VA ha k;have h2:=VA hb k;have h3:=h.carry;unfold vF at h1 h2 h3;refine⟨by simp [h.len],YF h.bits (by intro x hx;simp at hx;subst hx;unfold vF;omega),by unfold vF;omega,?_⟩;have e:=h.sum;rw [Yp,Yp,eu,h.len];simp only [bv,Int.mul_zero,Int.add_zero];have e2:(2:Int)^(k+1)*(s / 2)=2^k*(2*(s / 2)):=by rw [Int.pow_succ,Int.mul_assoc]
 have e3:(2:Int)^k*(s%2)+2^k*(2*(s / 2))=2^k*s:=by rw [<-Int.mul_add];congr 1;omega
 have e4:(2:Int)^k*s=2^k*c+2^k*a.getD k 0+2^k*b.getD k 0:=by rw [hs,Int.mul_add,Int.mul_add]
 omega
theorem ib.done {a b:List Int}{c:Int}(h:ib a b k d c)(ha:a.length<=k)(hb:b.length<=k):d=tr k (bv a+bv b).toNat:=by
 have e:=h.sum;rw [qU ha,qU hb] at e;have h1:=Zz h.bits;have h2:=tf h.bits;have h3:=h.carry;rw [h.len] at h1 h2;have hp:(2:Int)^k=((2^k:Nat):Int):=by rw [yS];rfl
 rw [h1,<-Qu k (bv a+bv b).toNat];congr 1;rw [e];obtain⟨c0,c1⟩:=h3;obtain⟨o,ho⟩:=xU h2.1;obtain⟨c,rfl⟩:=xU c0;rw [hp,ho] at h2;rw [ho,hp,<-QN,<-Int.natCast_add,Int.toNat_natCast,Int.toNat_natCast,XI];exact(qO zb).symm
theorem Ul (y k:Nat):y%2^(k+1)=y%2^k+2^k*(y / 2^k%2):=by rw [qP,Nat.mod_mul]
theorem Qt (x j:Nat)(h1:2^j<=x)(h2:x<2^(j+1)):bitLen x=j+1:=by
 have a:x≠0:=by have:=QW j;omega
 unfold bitLen;rw [if_neg a,(Nat.log2_eq_iff a).2 ⟨h1,h2⟩]
structure jR (x y c k:Nat)(out:List Int)(b:Int):Prop where
 len:out.length=k
 bits:sn out
 lack:vF b
 sum:bv out - 2^k*b=((x%2^k:Nat):Int) - ((y%2^k:Nat):Int) - (if k=0 then 0 else(c:Int)%2)
 first:k=0->b=0
theorem jR.start (x y c:Nat):jR x y c 0 [] 0:=⟨rfl,by intro b hb;simp at hb,by unfold vF;omega,by simp [bv,xT],λ_=>rfl⟩
def iR (x y c k:Nat)(b:Int):Int:=((x / 2^k%2:Nat):Int) - ((y / 2^k%2:Nat):Int) - b - (if k=0 then(c:Int)%2 else 0)
theorem rO {x y c:Nat}{b:Int}(hb:vF b)(h0:k=0->b=0): -2<=iR x y c k b/\iR x y c k b<=1:=by
 unfold vF at hb;unfold iR
 split
 ·rename_i h;have:=h0 h;omega
 ·omega
theorem jR.step {g:List Int}{b d b':Int}(h:jR x y c k g b)(hd:d=iR x y c k b+2*b')(a:b'=if iR x y c k b<0 then 1 else 0):jR x y c (k+1) (g++[d]) b':=by
 have hbd:=rO (x:=x) (y:=y) (c:=c) h.lack h.first;have hB:vF b':=by unfold vF;split at a<;>omega
 refine⟨by simp [h.len],YF h.bits (by intro z hz;simp at hz;subst hz;unfold vF;split at a<;>omega),hB,?_,zb⟩;have e:=h.sum;rw [eu,h.len,Ul x k,Ul y k];simp only [bv,Int.mul_zero,Int.add_zero,if_neg (Nat.succ_ne_zero k)];have hD:(if k=0 then(0:Int) else(c:Int)%2)+(if k=0 then(c:Int)%2 else 0)=(c:Int)%2:=by split<;>omega
 have i:2^k*(if k=0 then(c:Int)%2 else 0)=(if k=0 then(c:Int)%2 else 0):=by
  split
  ·rename_i h;subst h;simp
  ·simp
 have e1:(2:Int)^k*d=2^k*((x / 2^k%2:Nat):Int) - 2^k*((y / 2^k%2:Nat):Int) - 2^k*b - 2^k*(if k=0 then(c:Int)%2 else 0)+2^k*(2*b'):=by
  rw [hd];unfold iR;rw [Int.mul_add,Int.mul_sub,Int.mul_sub,Int.mul_sub]
 have e2:(2:Int)^(k+1)*b'=2^k*(2*b'):=by rw [Int.pow_succ,Int.mul_assoc]
 have e3:((x%2^k+2^k*(x / 2^k%2):Nat):Int)=((x%2^k:Nat):Int)+2^k*((x / 2^k%2:Nat):Int):=by rw [Int.natCast_add,QN,yS];rfl
 have e4:((y%2^k+2^k*(y / 2^k%2):Nat):Int)=((y%2^k:Nat):Int)+2^k*((y / 2^k%2:Nat):Int):=by rw [Int.natCast_add,QN,yS];rfl
 rw [e3,e4];rw [i] at e1;omega
theorem jR.done {b:Int}(h:jR x y c 64 d b)(hx:x<18446744073709551616)(hy:y<18446744073709551616):bv d=oe x y c/\b=od x y c:=by
 have e:=h.sum;have a:=tf h.bits;have hl:=h.lack;rw [h.len] at a;rw [show x%2^64=x from qO zb,show y%2^64=y from qO zb] at e;simp only [show(2:Int)^64=18446744073709551616 from by decide,show ¬(64:Nat)=0 from by decide,if_false] at e a;unfold vF at hl;unfold oe od;refine⟨zb,?_⟩
 split<;>omega
set_option maxRecDepth 100000
theorem Yz (hx:(dg 18446744073709551616 x).length=n+1):wd x n=x / 18446744073709551616^n/\0<wd x n/\bitLen x=64*n+bitLen (wd x n):=by
 have a:x≠0:=by rintro rfl;simp [pV] at hx
 have h1:=ym (b:=18446744073709551616) zg x;have h2:=(kE (b:=18446744073709551616) zg x a).2;rw [hx] at h1 h2;have h3:x / 18446744073709551616^n<18446744073709551616:=(QP (XH zg)).2 (by rw [qS,<-qP];exact h1);have h4:0<x / 18446744073709551616^n:=Nat.div_pos (by simpa using h2) (XH zg);have h5:wd x n=x / 18446744073709551616^n:=qO h3;refine⟨h5,zb,?_⟩;rw [h5];have e:(18446744073709551616:Nat)^n=2^(64*n):=by rw [show(18446744073709551616:Nat)=2^64 from rfl,<-yG]
 rw [e] at h4⊢;exact bitLen_shift x (64*n) zb
theorem Ys (A:ze)(c:Nat)(w:World):Calls prog 106 #[.agg #[.slice A 0 c]] w λe w'=>e=.returned (.bool true)/\Below w.heap.size w w':=Um A 0 c w
theorem Y6 (A:ze)(n c:Nat)(hn:n≠0)(w:World):Calls prog 106 #[.agg #[.slice A n c]] w λe w'=>e=.returned (.bool false)/\Below w.heap.size w w':=by
 have:=Um A n c w;rw [decide_eq_false hn] at this;exact this
theorem VE (h:(dg 18446744073709551616 x).length=0):x=0:=by
 have h1:=ym (b:=18446744073709551616) zg x;rw [h] at h1;omega
theorem aP (x:Nat)(A:ze)(n c:Nat)(w:World)(hA:zn w x A n c)(hn:n<=1099511627776):
  Calls prog 107 #[.agg #[.slice A n c]] w λe w'=>e=.returned (.int .i64 (bitLen x:Nat))/\Below w.heap.size w w':=by
 have d:=hA.len;by_cases h0:n=0
 ·subst h0;have hx:x=0:=VE d;subst hx;have HZ:=za (λw=>Ys A c w);clear d hA;go_enter func107,ntmps107;go_wp2_with fail;refine(HZ.o _).mono ?_;rintro e w1 ⟨rfl,hb⟩;have hB:=zc ((qZ _ w).alloc (qY _) _) hb;clear hb;go_wp2;go_ret;exact⟨rfl,hB⟩
 ·obtain⟨m,rfl⟩:∃m,n=m+1:=⟨n - 1,zb⟩;obtain⟨h1,h2,h3⟩:=Yz d;have o:=wF x m;obtain⟨ad,rfl,g,hx⟩:=wB hA.1 (k:=m) zb;rw [oH] at hx;have HZ:=za (λw=>Y6 (some ad) (m+1) c zb w);have WL:=(λw=>pQ (wd x m:Nat) ⟨zb,zb⟩ w);have j:bitLen (wd x m)<=64:=jt _ 64 (by simpa using o);have e:uX ((wd x m:Nat):Int)=((bitLen (wd x m):Nat):Int):=by unfold uX;simp
  rw [e] at WL;obtain⟨a,ha⟩:∃a,wd x m=a:=⟨_,rfl⟩;rw [ha] at hx WL j h3;obtain⟨b,i⟩:∃b,bitLen a=b:=⟨_,rfl⟩;rw [i] at WL j h3;have HW:=za WL;have H3:=za h3;clear WL h3 i ha e o h1 h2 d h0 hA;go_enter func107,ntmps107;go_wp2_with fail;refine(HZ.o _).mono ?_;rintro e w1 ⟨rfl,hb⟩;have hB:=zc ((qZ _ w).alloc (qY _) _) hb;have g1:w1.cell? ⟨w.heap.size,0,none⟩=some (.slice (some ad) (m+1) c):=zt hb ((zh.new w 37 #[.slice (some ad) (m+1) c]).cell 0);have g2:w1.cell? (ad.add m)=some (.int .u64 a):=(hB.cell (by rw [y8];exact g)).trans hx;clear hb hx;go_wp2_with fail;refine(HW.o _).mono ?_;rintro e w2 ⟨rfl,rfl⟩;go_wp2;go_ret;exact⟨by rw [H3.o];go_num,hB⟩
theorem nJ (k:Nat):18446744073709551616^(k / 64)*2^(k%64)=2^k:=by
 rw [show(18446744073709551616:Nat)=2^64 from rfl,<-yG,<-xX,XK]
theorem ig {r:Nat}(h:r<=64):2^(64 - r)*2^r=18446744073709551616:=by
 rw [<-xX,Nat.sub_add_cancel h]
theorem ql (h:b<2^i):2^i*a|||b=2^i*a+b:=(Nat.two_pow_add_eq_or_of_lt h a).symm
theorem PZ (h:b<2^i):b|||2^i*a=2^i*a+b:=by rw [Nat.or_comm];exact ql h
theorem UW (h:b<2^i)(hab:2^i*a+b<18446744073709551616):bits .or .u64 (b:Int) ((2^i*a:Nat):Int)=((2^i*a+b:Nat):Int):=by
 rw [bits_or_u64_nat _ _ zb zb,PZ h]
theorem U8 (a r:Nat)(hr:r<=64):a*2^r%18446744073709551616=2^r*(a%2^(64 - r)):=by
 rw [<-ig hr,qS (2^(64 - r)),qS a,Nat.mul_mod_mul_left]
theorem pP (x k i:Nat):wd (x / 2^k) i=wd x (k / 64+i) / 2^(k%64)+2^(64 - k%64)*(wd x (k / 64+i+1)%2^(k%64)):=by
 have hr:k%64<=64:=zb;have e1:x / 2^k / 18446744073709551616^i=x / 18446744073709551616^(k / 64+i) / 2^(k%64):=by
  rw [xD,xD,<-nJ k,xX];congr 1;rw [qG,qG,qS (2^(k%64))]
 have e2:x / 18446744073709551616^(k / 64+i+1)=x / 18446744073709551616^(k / 64+i) / 18446744073709551616:=by
  rw [qP,<-xD]
 unfold wd;rw [e1,e2];generalize x / 18446744073709551616^(k / 64+i)=y;generalize k%64=r at*;have e3:y / 18446744073709551616%18446744073709551616%2^r=y / 18446744073709551616%2^r:=by
  refine Nat.mod_mod_of_dvd _ ?_;rw [<-ig hr];exact Nat.dvd_mul_left _ _
 rw [e3];have e4:y=18446744073709551616*(y / 18446744073709551616)+y%18446744073709551616:=(XK _ _).symm;generalize hq:y / 18446744073709551616=q at*;generalize hm:y%18446744073709551616=m at*;have a:m<18446744073709551616:=zb;subst e4;rw [<-ig hr] at a⊢;have e5:2^(64 - r)*2^r*q+m=m+2^r*(2^(64 - r)*q):=by rw [YG,qS (2^(64 - r)) (2^r),qG]
 rw [e5,Nat.add_mul_div_left _ _ (QW r)];have e6:m / 2^r<2^(64 - r):=(QP (QW r)).2 a;have e7:2^(64 - r)*q=2^(64 - r)*2^r*(q / 2^r)+2^(64 - r)*(q%2^r):=by
  rw [qG,<-qC,XK]
 rw [e7,YG (2^(64 - r)*2^r*(q / 2^r)),<-xE,XI];refine qO ?_;have e8:q%2^r<2^r:=QH _ (QW r);have e9:2^(64 - r)*(q%2^r+1)<=2^(64 - r)*2^r:=QB _ e8;rw [qC] at e9;omega
def vQ (y i:Nat):List Nat:=(List.range i).map (wd y)
theorem lR (y i:Nat):(vQ y i).length=i:=by simp [vQ]
theorem cW (y i:Nat):vQ y (i+1)=vQ y i++[wd y i]:=by simp [vQ,yA]
theorem Xg (y i:Nat):zD 18446744073709551616 (vQ y i):=by
 intro d hd;obtain⟨j,_,rfl⟩:=List.mem_map.1 hd;exact wF y j
theorem Vb (y:Nat):∀i,dv 18446744073709551616 (vQ y i)=y%18446744073709551616^i
 |0=>by simp [vQ,dv,xT]
 |i+1=>by rw [cW,vA,Vb y i,lR,vO 18446744073709551616 y i];rfl
theorem Xf (h:(dg 18446744073709551616 y).length<=i):dv 18446744073709551616 (vQ y i)=y:=by
 rw [Vb];exact qO (qJ (ym zg y) (qV zg h))
theorem WV (m:Nat):IntKind.u64.wrap (m:Int)=((m%18446744073709551616:Nat):Int):=by
 simp [IntKind.wrap,IntKind.bits,IntKind.signed]
theorem V2 {b r:Nat}(ha:a<18446744073709551616)(hr:r<64):
  bits .or .u64 ((a:Int) / 2^r) (IntKind.u64.wrap ((b:Int)*2^(64 - r)))=((a / 2^r+2^(64 - r)*(b%2^r):Nat):Int):=by
 have e1:(a:Int) / 2^r=((a / 2^r:Nat):Int):=zE;have e2:(b:Int)*2^(64 - r)=((b*2^(64 - r):Nat):Int):=zE;have e3:b*2^(64 - r)%18446744073709551616=2^(64 - r)*(b%2^r):=by
  rw [U8 b (64 - r) zb,show 64 - (64 - r)=r from by omega]
 rw [e1,e2,WV,e3];have h1:a / 2^r<2^(64 - r):=(QP (QW r)).2 (by rw [ig zb];exact ha);have h2:b%2^r<2^r:=QH _ (QW r);have h3:2^(64 - r)*(b%2^r+1)<=2^(64 - r)*2^r:=QB _ h2;rw [ig zb,qC] at h3;rw [UW h1 zb,YG]
structure lk (x m k:Nat)(out:List Nat)(c:Nat):Prop where
 len:out.length=k
 dgs:zD 18446744073709551616 out
 carry:c<m
 sum:dv 18446744073709551616 out+18446744073709551616^k*c=x%18446744073709551616^k*m
theorem lk.start (x m:Nat)(hm:0<m):lk x m 0 [] 0:=⟨rfl,by intro d hd;simp at hd,hm,by simp [dv,xT]⟩
theorem lk.step {s:Nat}{a:List Nat}(h:lk x m k a c)(hs:s=wd x k*m+c):lk x m (k+1) (a++[s%18446744073709551616]) (s / 18446744073709551616):=by
 have h1:=wF x k;have h3:=h.carry;have h4:(wd x k+1)*m<=18446744073709551616*m:=qW m h1;rw [QE] at h4;refine⟨by simp [h.len],h.dgs.append (by intro d hd;simp at hd;subst hd;exact QH _ zg),(QP zg).2 (by rw [qS m];omega),?_⟩;have e:=h.sum;have e2:18446744073709551616^k*(s%18446744073709551616)+18446744073709551616^k*(18446744073709551616*(s / 18446744073709551616))=18446744073709551616^k*s:=by rw [<-qC,XS]
 have e3:18446744073709551616^k*s=18446744073709551616^k*wd x k*m+18446744073709551616^k*c:=by rw [hs,qC,qG]
 rw [vA,h.len,qP,qG (18446744073709551616^k) 18446744073709551616,<-qP,vO 18446744073709551616 x k,QE];unfold wd at e3;omega
theorem lk.done {q:Nat}{a:List Nat}(h:lk x m n a c)(hx:(dg 18446744073709551616 x).length<=n):dv 18446744073709551616 (List.replicate q 0++a++[c])=18446744073709551616^q*m*x:=by
 have e:=h.sum;have h1:x<18446744073709551616^n:=qJ (ym zg x) (qV zg hx);rw [qO h1] at e;rw [xJ,uO,jB,yE,vA,h.len,e,xA,qG,qS m]
theorem U7 (a:Nat){r:Nat}(hr:r<64):∃hi lo:Nat,a / 2^(64 - r)=hi/\2^r*(a%2^(64 - r))=lo/\a*2^r=18446744073709551616*hi+lo/\lo+2^r<=18446744073709551616:=by
 refine⟨_,_,rfl,rfl,?_,?_⟩
 ·rw [<-ig (r:=r) zb,qG,qS (2^r) (a / 2^(64 - r)),<-qG,qS (2^r),<-QE,XK]
 ·have h2:a%2^(64 - r)<2^(64 - r):=QH _ (QW _);have h3:2^r*(a%2^(64 - r)+1)<=2^r*2^(64 - r):=QB _ h2;rw [qS (2^r) (2^(64 - r)),ig zb,qC,xC] at h3;exact h3
theorem pp {a r:Nat}(hr:r<64)(hc:c<2^r):bits .or .u64 (c:Int) (IntKind.u64.wrap ((a:Int)*2^r))=(((a*2^r+c)%18446744073709551616:Nat):Int):=by
 have e2:(a:Int)*2^r=((a*2^r:Nat):Int):=zE;obtain⟨hi,lo,e3,e4,e5,e6⟩:=U7 a hr;have e7:2^r*(a%2^(64 - r))+c<18446744073709551616:=by rw [e4];omega
 rw [e2,WV,U8 a r zb,UW hc e7,e4,e5];generalize 2^r=p at*;omega
theorem Pv {a r:Nat}(hr:r<64)(hc:c<2^r):(a:Int) / 2^(64 - r)=(((a*2^r+c) / 18446744073709551616:Nat):Int):=by
 have e1:(a:Int) / 2^(64 - r)=((a / 2^(64 - r):Nat):Int):=zE;obtain⟨hi,lo,e3,e4,e5,e6⟩:=U7 a hr;rw [e1,e3,e5];generalize 2^r=p at*;omega
theorem mu {α:Type}{P R:List α}{j:Nat}{c z a b:α}(h:P.length=j):((P++c::z::R).set j a).set (j+1) b=P++a::b::R:=by
 subst h;rw [YR _ _ (qY _),yJ,qD,YR _ _ zb];simp
theorem V8 (n:Nat):zq .u64 (List.replicate (n+1) 0)=.int .u64 0::zq .u64 (List.replicate n 0):=by simp [zq,List.replicate_succ]
theorem UV (cs:Array Value)(l:List Nat)(w:World)(g n x:Nat)(hk:zh w g 132 cs)(hn:cs.size=n)(hv:cs.toList=zq .u64 l)(hd:zD 18446744073709551616 l)(hx:dv 18446744073709551616 l=x)(hs:n<=1000):
  Calls prog 104 #[.slice (some ⟨g,0,none⟩) n n] w (xp w x):=by
 have hl:l.length=n:=by
  have h:=congrArg List.length hv;rw [wt] at h;rw [<-h];simpa using hn
 have:=uS (some ⟨g,0,none⟩) n n l w (ju hk hn (by rw [hv,qU (by rw [wt];omega)]) hl) hd (qY _) zb zb;rw [hx] at this;exact this
theorem gj (a:Nat)(ha:a<18446744073709551616):zD 18446744073709551616 [a]:=by intro d hd;simp at hd;omega
theorem km (w:World)(o:Obj):Below w.heap.size w (w.alloc o):=(qZ _ w).alloc (qY _) o
theorem kX {A:ze}{l:List Nat}(h:zn w x A n c)(hx:dg 18446744073709551616 x=l):n=l.length:=by rw [<-h.len,hx]
def Sz (K x:Nat):Prop:=x<18446744073709551616^K
theorem Sz.of_le (h:Sz K x)(hy:y<=x):Sz K y:=QU hy h
theorem Sz.up (h:Sz K x)(hk:K<=K'):Sz K' x:=qJ h (qV zg hk)
theorem Sz.add (h:Sz K x)(h':Sz K y):Sz (K+1) (x+y):=by
 unfold Sz at*;rw [qP];omega
theorem Sz.mul (h:Sz K x)(h':Sz K' y):Sz (K+K') (x*y):=by
 unfold Sz at*;rw [xX];exact XU h h'
theorem Sz.len (h:Sz K x):(dg 18446744073709551616 x).length<=K:=wy zg _ _ h
theorem Sz.words (h:Sz K x){w:World}{A:ze}{n c:Nat}(hw:zn w x A n c):n<=K:=by rw [<-hw.len];exact h.len
theorem jG (h:x=0){w:World}{A:ze}{n c:Nat}(hA:zn w x A n c):Calls prog 106 #[.agg #[.slice A n c]] w λe w'=>e=.returned (.bool true)/\Below w.heap.size w w':=by
 subst h;obtain rfl:n=0:=kX hA (pV _);exact Ys A c w
theorem ko (h:x≠0){w:World}{A:ze}{n c:Nat}(hA:zn w x A n c):Calls prog 106 #[.agg #[.slice A n c]] w λe w'=>e=.returned (.bool false)/\Below w.heap.size w w':=
 Y6 A n c (λh0=>h (VE (by rw [hA.len];exact h0))) w
theorem gh {x y:Nat}(h:x=y){w:World}{A D:ze}{n m c d:Nat}(hA:zn w x A n c)(hD:zn w y D m d)(hn:n<=1099511627776)(hm:m<=1099511627776):
  Calls prog 77 #[.agg #[.slice A n c],.agg #[.slice D m d]] w (wC w 0):=by
 have:=jM x y A D n m c d w hA hD hn hm;rwa [lh h] at this
