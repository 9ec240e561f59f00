/- What this claim leans on. -/
import Derived.Test.YtielpgdebeggbaaGreatDoorMBunE
import Derived.ChangeArms
import Derived.ChangeOld
import Derived.Lib.SmallJoins
import Derived.OpenShut
import Derived.ProofKit
set_option linter.unusedVariables false
set_option linter.unusedSimpArgs false
namespace Go.Proofs.YtielpgdebeggbaaGreatDoor
open Go Go.RowKit Go.Proofs.Tryz
set_option maxHeartbeats 16000000
variable {cs:Array Value}{d:List Int}{K K' a b c g i k m n x y:Nat}{t:TypeId}{v:Value}{w w' w1:World}
structure vG (x y k:Nat)(out:List Nat)(c:Nat):Prop where
 len:out.length=k
 dgs:zK 18446744073709551616 out
 carry:c<=1
 sum:x%18446744073709551616^k+y%18446744073709551616^k=dv 18446744073709551616 out+18446744073709551616^k*c
theorem vG.start (x y:Nat):vG x y 0 [] 0:=⟨rfl,by intro d hd;simp at hd,za,by simp [dv,XZ]⟩
theorem vG.step {s:Nat}{a:List Nat}(h:vG x y k a c)(hs:s=wd x k+wd y k+c):vG x y (k+1) (a++[s%18446744073709551616]) (s / 18446744073709551616):=by
 have h1:=wU x k;have h2:=wU y k;have h3:=h.carry;refine⟨by simp [h.len],h.dgs.append (by intro d hd;simp at hd;subst hd;exact xD _ zf),za,?_⟩;have e:=h.sum;unfold wd at hs;rw [ue 18446744073709551616 x k,ue 18446744073709551616 y k,vR,h.len,QD,qL,xC (dv 18446744073709551616 a),<-QQ,XP,hs,QQ,QQ];omega
theorem vG.done {a:List Nat}(h:vG x y (k+1) a c)(hx:(dg 18446744073709551616 x).length<=k)(hy:(dg 18446744073709551616 y).length<=k):dv 18446744073709551616 a=x+y:=by
 have e:=h.sum;have h1:x<18446744073709551616^k:=qJ (ww zf x) (qA zf hx);have h2:y<18446744073709551616^k:=qJ (ww zf y) (qA zf hy);rw [QD] at e;rw [qC za,qC za] at e;have h3:=h.carry;have h4:c=0\/c=1:=za;rcases h4 with rfl|rfl
 ·omega
 ·omega
theorem VW (hc:c<=1):uS (a:Int) (b:Int) (c:Int)=(((a+b+c)%18446744073709551616:Nat):Int):=by unfold uS;omega
theorem VV (hc:c<=1):uR (a:Int) (b:Int) (c:Int)=(((a+b+c) / 18446744073709551616:Nat):Int):=by unfold uR;omega
structure vJ (x y k:Nat)(out:List Nat)(c:Nat):Prop where
 len:out.length=k
 dgs:zK 18446744073709551616 out
 lack:c<=1
 sum:dv 18446744073709551616 out+y%18446744073709551616^k=x%18446744073709551616^k+18446744073709551616^k*c
theorem vJ.start (x y:Nat):vJ x y 0 [] 0:=⟨rfl,by intro d hd;simp at hd,za,by simp [dv,XZ]⟩
theorem vJ.step {d c':Nat}{a:List Nat}(h:vJ x y k a c)(hd:d<18446744073709551616)(hc:c'<=1)(hs:d+wd y k+c=wd x k+18446744073709551616*c'):vJ x y (k+1) (a++[d]) c':=by
 refine⟨by simp [h.len],h.dgs.append (by intro e he;simp at he;subst he;exact hd),hc,?_⟩;have e:=h.sum;have e2:18446744073709551616^k*d+18446744073709551616^k*(y / 18446744073709551616^k%18446744073709551616)+18446744073709551616^k*c=18446744073709551616^k*(x / 18446744073709551616^k%18446744073709551616)+18446744073709551616^k*(18446744073709551616*c'):=by
  unfold wd at hs;rw [<-QQ,<-QQ,hs,QQ]
 rw [ue 18446744073709551616 x k,ue 18446744073709551616 y k,vR,h.len,QD,qL (18446744073709551616^k) 18446744073709551616 c'];omega
theorem vJ.done {a:List Nat}(h:vJ x y k a c)(d:y<=x)(hx:(dg 18446744073709551616 x).length<=k):dv 18446744073709551616 a=x - y:=by
 have e:=h.sum;have h1:x<18446744073709551616^k:=qJ (ww zf x) (qA zf hx);have h3:=vv h.dgs;rw [h.len] at h3;rw [qC h1,qC (QI d h1)] at e;have h4:=h.lack;have:c=0\/c=1:=za;rcases this with rfl|rfl<;>omega
theorem Yp (ha:a<18446744073709551616)(hb:b<18446744073709551616)(hc:c<=1):
  ∃d c':Nat,o8 (a:Int) (b:Int) (c:Int)=(d:Int)/\o7 (a:Int) (b:Int) (c:Int)=(c':Int)/\d<18446744073709551616/\c'<=1/\d+b+c=a+18446744073709551616*c':=by
 refine⟨((a:Int) - b - c).emod 18446744073709551616|>.toNat,if a<b+c then 1 else 0,?_,?_,?_,?_,?_⟩
 ·unfold o8;show((a:Int) - b - (c:Int)%2)%18446744073709551616=((((a:Int) - b - c)%18446744073709551616).toNat:Int);omega
 ·unfold o7;split<;>split<;>omega
 ·show(((a:Int) - b - c)%18446744073709551616).toNat<_;omega
 ·split<;>omega
 ·show(((a:Int) - b - c)%18446744073709551616).toNat+b+c=_;split<;>omega
theorem Yb (cs:Array Value)(k:Nat)(u:Value)(h:k<cs.size):(cs.setIfInBounds k u).toList.take (k+1)=cs.toList.take k++[u]:=by
 rw [QO,QG (by simpa using h)];simp [YL];exact List.set_eq_of_length_le (by simp;omega)
theorem eG (K:IntKind)(l:List Nat)(d:Nat):zH K (l++[d])=zH K l++[.int K (d:Int)]:=by simp [zH]
theorem iL {l:List Nat}(h:zh w g t cs)(hn:cs.size=n)(hv:cs.toList.take n=zH .u64 l)(hl:l.length=n):zN w w.heap.size 1 (some ⟨g,0,none⟩) n (zH .u64 l):=by
 refine⟨by rw [vd];omega,λ_=>⟨_,rfl,h.lt,λj u hu=>?_⟩⟩;have e:(⟨g,0,none⟩:Addr).add j=⟨g,j,none⟩:=by unfold Addr.add;split<;>simp_all
 rw [e,h.cell j,<-QS];rw [qV (by simp;omega)] at hv;rw [hv];exact hu
theorem zg (hb:Below w.heap.size w w')(h:zh w g t cs):zh w' g t cs:=h.below hb h.lt
theorem yu {g0:Nat}{t0:TypeId}{cs0:Array Value}{g1:Nat}{t1:TypeId}{cs1:Array Value}(hb:Below w.heap.size w w')(h0:zh w g0 t0 cs0)(h1:zh w g1 t1 cs1):zh w' g0 t0 cs0/\zh w' g1 t1 cs1:=⟨zg hb h0,zg hb h1⟩
theorem zA (w:World)(t:TypeId)(a:Array Value):Below w.heap.size w (w.alloc (.cells a t))/\zh (w.alloc (.cells a t)) w.heap.size t a/\w.heap.size+1<=(w.alloc (.cells a t)).heap.size:=
 ⟨(qZ _ w).alloc (qX _) _,zh.new w t a,zF⟩
theorem yv (w:World)(t s:TypeId)(a b:Array Value):Below w.heap.size w ((w.alloc (.cells a t)).alloc (.cells b s))/\zh ((w.alloc (.cells a t)).alloc (.cells b s)) w.heap.size t a/\zh ((w.alloc (.cells a t)).alloc (.cells b s)) (w.heap.size+1) s b/\w.heap.size+2<=((w.alloc (.cells a t)).alloc (.cells b s)).heap.size:=by
 obtain⟨h1,h2,h3⟩:=zA w t a;have h4:=zh.new (w.alloc (.cells a t)) s b;have e:(w.alloc (.cells a t)).heap.size=w.heap.size+1:=zF;rw [e] at h4;exact⟨h1.alloc h1.size _,h2.alloc _,h4,zF⟩
theorem xd (w:World)(t s r:TypeId)(a b c:Array Value):Below w.heap.size w (((w.alloc (.cells a t)).alloc (.cells b s)).alloc (.cells c r))/\zh (((w.alloc (.cells a t)).alloc (.cells b s)).alloc (.cells c r)) w.heap.size t a/\zh (((w.alloc (.cells a t)).alloc (.cells b s)).alloc (.cells c r)) (w.heap.size+1) s b/\zh (((w.alloc (.cells a t)).alloc (.cells b s)).alloc (.cells c r)) (w.heap.size+1+1) r c/\w.heap.size+3<=(((w.alloc (.cells a t)).alloc (.cells b s)).alloc (.cells c r)).heap.size:=by
 obtain⟨h1,h2,h3,h4⟩:=yv w t s a b;have h5:=zh.new ((w.alloc (.cells a t)).alloc (.cells b s)) r c;have e:((w.alloc (.cells a t)).alloc (.cells b s)).heap.size=w.heap.size+2:=zF;rw [e] at h5;exact⟨h1.alloc h1.size _,h2.alloc _,h3.alloc _,h5,zF⟩
theorem xF {p:Addr}(o:Obj)(h:w1.cell? p=some v):(w1.alloc o).cell? p=some v:=(World.cell?_alloc_lt w1 o p (QM w1 p h)).trans h
theorem xu (o:Obj)(h:Below w.heap.size w w1):Below w.heap.size w (w1.alloc o):=h.alloc h.size o
theorem yk {p q:Addr}(u:Value)(hp:p.block≠q.block)(h:w1.cell? p=some v):(w1.setCell q u).cell? p=some v:=(yR w1 q p u (λe=>hp (by first|rw [e]|rw [<-e]))).trans h
theorem zQ {p:Addr}(u:Value)(hp:w.heap.size<=p.block)(h:Below w.heap.size w w1):Below w.heap.size w (w1.setCell p u):=h.setCell hp u
theorem bC {wr:World}{gs p:Nat}{A1:ze}{c1:Nat}(hB:Below w.heap.size w wr)(hp:w.heap.size<=p)(hg:p≠gs)(hr:zN wr wr.heap.size 1 A1 (dg 18446744073709551616 x).length (zH .u64 (dg 18446744073709551616 x)))(h1:(dg 18446744073709551616 x).length<=c1)(h2:c1<=9223372036854775807)
  (hA:A1=some ⟨gs,0,none⟩\/A1=none) (a:w.heap.size<=gs) (u:Value):Below w.heap.size w (wr.setCell ⟨p,0,none⟩ u)/\zq (wr.setCell ⟨p,0,none⟩ u) x A1 (dg 18446744073709551616 x).length c1/\sC w A1:=
 ⟨hB.setCell hp u,kC ⟨hr,h1,h2⟩ (λad e=>by
  rcases hA with h|h
  ·rw [h] at e;injection e with e;subst e;exact λe2=>hg e2.symm
  ·rw [h] at e;cases e) u,λad e=>by
  rcases hA with h|h
  ·rw [h] at e;injection e with e;subst e;exact a
  ·rw [h] at e;cases e⟩
theorem eJ {a:Value}(h:zh w g t #[a])(u:Value):zh (w.setCell ⟨g,0,none⟩ u) g t #[u]:=h.set_ 0 u
def xi (w:World)(g:Nat)(v:Value):Prop:=∃t,zh w g t #[v]
theorem zh.one {t:TypeId}(h:zh w g t #[v]):xi w g v:=⟨t,h⟩
theorem xi.cell {w:World}{g:Nat}{v:Value}(h:xi w g v):w.cell? ⟨g,0,none⟩=some v:=by obtain⟨t,h⟩:=h;exact h.cell 0
theorem xi.frozen (h:xi w g v):w.frozen? ⟨g,0,none⟩=false:=by obtain⟨t,h⟩:=h;exact h.frozen 0
theorem xi.new (w:World)(t:TypeId)(v:Value):xi (w.alloc (.cells #[v] t)) w.heap.size v:=⟨t,zh.new w t _⟩
theorem xi.alloc (h:xi w g v)(o:Obj):xi (w.alloc o) g v:=by obtain⟨t,h⟩:=h;exact⟨t,h.alloc o⟩
theorem xi.drew (h:xi w g v):xi w.drew g v:=h
theorem xi.set_ (h:xi w g v)(u:Value):xi (w.setCell ⟨g,0,none⟩ u) g u:=by obtain⟨t,h⟩:=h;exact⟨t,eJ h u⟩
theorem xi.far (h:xi w g v){p:Addr}(hp:g≠p.block)(u:Value):xi (w.setCell p u) g v:=by obtain⟨t,h⟩:=h;exact⟨t,h.far hp u⟩
theorem xi.keep {w':World}(h:xi w g v)(hb:Below w.heap.size w w'):xi w' g v:=by obtain⟨t,h⟩:=h;exact⟨t,zg hb h⟩
theorem xi.lt (h:xi w g v):g<w.heap.size:=by obtain⟨t,h⟩:=h;exact h.lt
def gl (w:World)(x:Nat)(b:Bool)(e:Ending)(w':World):Prop:=∃(A:ze) (n c:Nat),e=.returned (.tuple #[.agg #[.slice A n c],.bool b])/\zq w' x A n c/\Below w.heap.size w w'/\sC w A
theorem ZE (w:World):zq w 0 none 0 0:=⟨zN.none_,qX _,za⟩
theorem nU (h:y<=x):0<=wf x y:=by
 unfold wf;rw [if_neg za]
 split<;>omega
def se:Nat->Nat->List Int
 |0,_=>[]
 |n+1,x=>((x%2:Nat):Int)::se n (x / 2)
def bv:List Int->Int
 |[]=>0
 |b::l=>b+2*bv l
def vH (b:Int):Prop:=0<=b/\b<=1
def rf (l:List Int):Prop:=∀b ∈ l,vH b
theorem Xz:∀n x,(se n x).length=n
 |0,_=>rfl
 |n+1,x=>by simp [se,Xz n]
theorem WH:∀n x,rf (se n x)
 |0,_=>by intro b hb;simp [se] at hb
 |n+1,x=>by
   intro b hb;simp only [se,List.mem_cons] at hb;rcases hb with rfl|hb
   ·unfold vH;omega
   ·exact WH n _ b hb
theorem UB:∀n x,bv (se n x)=((x%2^n:Nat):Int)
 |0,x=>by simp [se,bv,XZ]
 |n+1,x=>by
   rw [se,bv,UB n (x / 2)];have h:x%2^(n+1)=x%2+2*(x / 2%2^n):=by
    rw [QD,QK (2^n) 2,Nat.mod_mul]
   omega
theorem cS:∀(l m:List Int),bv (l++m)=bv l+2^l.length*bv m
 |[],m=>by simp [bv]
 |b::l,m=>by
   rw [YP,bv,bv,cS l m,xK,Int.pow_succ,Int.mul_add,yV (2^l.length) 2,Int.mul_assoc];omega
theorem tL:∀{l:List Int},rf l->0<=bv l/\bv l<2^l.length
 |[],_=>by simp [bv]
 |b::l,h=>by
   have h1:=h b zF;have h2:=tL (l:=l) (λc hc=>h c (by simp [hc]));unfold vH at h1;rw [bv,xK,Int.pow_succ];omega
theorem Yu:∀{l:List Int},rf l->l=se l.length (bv l).toNat
 |[],_=>rfl
 |b::l,h=>by
   have h1:=h b zF;have h0:rf l:=λc hc=>h c (by simp [hc]);have h2:=tL h0;have e:=Yu h0;unfold vH at h1;rw [xK,se,bv];have e1:(b+2*bv l).toNat%2=b.toNat:=za;have e2:(b+2*bv l).toNat / 2=(bv l).toNat:=za;rw [e1,e2,<-e];congr 1;omega
theorem Pj (n x:Nat):se n (x%2^n)=se n x:=by
 have h:=Yu (WH n x);rw [Xz,UB,Int.toNat_natCast] at h;exact h.symm
theorem Wm {l m:List Int}(hl:rf l)(hm:rf m):rf (l++m):=by
 intro b hb;rcases List.mem_append.1 hb with h|h
 ·exact hl b h
 ·exact hm b h
theorem XF (l:List Int)(k:Nat):bv (l.take (k+1))=bv (l.take k)+2^k*l.getD k 0:=by
 by_cases h:k<l.length
 ·rw [QG h,cS,qE,xV za];simp [bv,List.getD,qY h]
 ·rw [qV za,qV za,qQ,qN za];simp
theorem Ul {l:List Int}(h:rf l)(k:Nat):vH (l.getD k 0):=by
 by_cases hk:k<l.length
 ·exact h _ (by rw [qQ,qY hk];exact xU hk)
 ·rw [qQ,qN za];unfold vH;simp
structure iy (a b:List Int)(k:Nat)(out:List Int)(c:Int):Prop where
 len:out.length=k
 bits:rf out
 carry:vH c
 sum:bv (a.take k)+bv (b.take k)=bv out+2^k*c
theorem iy.start (a b:List Int):iy a b 0 [] 0:=⟨rfl,by intro x hx;simp at hx,by unfold vH;omega,by simp [bv]⟩
theorem iy.step {a b d:List Int}{c s:Int}(h:iy a b k d c)(ha:rf a)(hb:rf b)(hs:s=c+a.getD k 0+b.getD k 0):iy a b (k+1) (d++[s%2]) (s / 2):=by
 have h1:=Ul ha k;have h2:=Ul hb k;have h3:=h.carry;unfold vH at h1 h2 h3;refine⟨by simp [h.len],Wm h.bits (by intro x hx;simp at hx;subst hx;unfold vH;omega),by unfold vH;omega,?_⟩;have e:=h.sum;rw [XF,XF,cS,h.len];simp only [bv,Int.mul_zero,Int.add_zero];have e2:(2:Int)^(k+1)*(s / 2)=2^k*(2*(s / 2)):=by rw [Int.pow_succ,Int.mul_assoc]
 have e3:(2:Int)^k*(s%2)+2^k*(2*(s / 2))=2^k*s:=by rw [<-Int.mul_add];congr 1;omega
 have e4:(2:Int)^k*s=2^k*c+2^k*a.getD k 0+2^k*b.getD k 0:=by rw [hs,Int.mul_add,Int.mul_add]
 omega
theorem iy.done {a b:List Int}{c:Int}(h:iy a b k d c)(ha:a.length<=k)(hb:b.length<=k):d=se k (bv a+bv b).toNat:=by
 have e:=h.sum;rw [qV ha,qV hb] at e;have h1:=Yu h.bits;have h2:=tL h.bits;have h3:=h.carry;rw [h.len] at h1 h2;have hp:(2:Int)^k=((2^k:Nat):Int):=by rw [yL];rfl
 rw [h1,<-Pj k (bv a+bv b).toNat];congr 1;rw [e];obtain⟨c0,c1⟩:=h3;obtain⟨o,ho⟩:=xR h2.1;obtain⟨c,rfl⟩:=xR c0;rw [hp,ho] at h2;rw [ho,hp,<-QT,<-Int.natCast_add,Int.toNat_natCast,Int.toNat_natCast,XI];exact(qC za).symm
theorem U0 (y k:Nat):y%2^(k+1)=y%2^k+2^k*(y / 2^k%2):=by rw [QD,Nat.mod_mul]
structure io (x y c k:Nat)(out:List Int)(b:Int):Prop where
 len:out.length=k
 bits:rf out
 lack:vH b
 sum:bv out - 2^k*b=((x%2^k:Nat):Int) - ((y%2^k:Nat):Int) - (if k=0 then 0 else(c:Int)%2)
 first:k=0->b=0
theorem io.start (x y c:Nat):io x y c 0 [] 0:=⟨rfl,by intro b hb;simp at hb,by unfold vH;omega,by simp [bv,XZ],λ_=>rfl⟩
def gN (x y c k:Nat)(b:Int):Int:=((x / 2^k%2:Nat):Int) - ((y / 2^k%2:Nat):Int) - b - (if k=0 then(c:Int)%2 else 0)
theorem ph {x y c:Nat}{b:Int}(hb:vH b)(h0:k=0->b=0): -2<=gN x y c k b/\gN x y c k b<=1:=by
 unfold vH at hb;unfold gN
 split
 ·rename_i h;have:=h0 h;omega
 ·omega
theorem io.step {g:List Int}{b d b':Int}(h:io x y c k g b)(hd:d=gN x y c k b+2*b')(a:b'=if gN x y c k b<0 then 1 else 0):io x y c (k+1) (g++[d]) b':=by
 have hbd:=ph (x:=x) (y:=y) (c:=c) h.lack h.first;have hB:vH b':=by unfold vH;split at a<;>omega
 refine⟨by simp [h.len],Wm h.bits (by intro z hz;simp at hz;subst hz;unfold vH;split at a<;>omega),hB,?_,za⟩;have e:=h.sum;rw [cS,h.len,U0 x k,U0 y k];simp only [bv,Int.mul_zero,Int.add_zero,if_neg (Nat.succ_ne_zero k)];have hD:(if k=0 then(0:Int) else(c:Int)%2)+(if k=0 then(c:Int)%2 else 0)=(c:Int)%2:=by split<;>omega
 have i:2^k*(if k=0 then(c:Int)%2 else 0)=(if k=0 then(c:Int)%2 else 0):=by
  split
  ·rename_i h;subst h;simp
  ·simp
 have e1:(2:Int)^k*d=2^k*((x / 2^k%2:Nat):Int) - 2^k*((y / 2^k%2:Nat):Int) - 2^k*b - 2^k*(if k=0 then(c:Int)%2 else 0)+2^k*(2*b'):=by
  rw [hd];unfold gN;rw [Int.mul_add,Int.mul_sub,Int.mul_sub,Int.mul_sub]
 have e2:(2:Int)^(k+1)*b'=2^k*(2*b'):=by rw [Int.pow_succ,Int.mul_assoc]
 have e3:((x%2^k+2^k*(x / 2^k%2):Nat):Int)=((x%2^k:Nat):Int)+2^k*((x / 2^k%2:Nat):Int):=by rw [Int.natCast_add,QT,yL];rfl
 have e4:((y%2^k+2^k*(y / 2^k%2):Nat):Int)=((y%2^k:Nat):Int)+2^k*((y / 2^k%2:Nat):Int):=by rw [Int.natCast_add,QT,yL];rfl
 rw [e3,e4];rw [i] at e1;omega
theorem io.done {b:Int}(h:io x y c 64 d b)(hx:x<18446744073709551616)(hy:y<18446744073709551616):bv d=o8 x y c/\b=o7 x y c:=by
 have e:=h.sum;have a:=tL h.bits;have hl:=h.lack;rw [h.len] at a;rw [show x%2^64=x from qC za,show y%2^64=y from qC za] at e;simp only [show(2:Int)^64=18446744073709551616 from by decide,show ¬(64:Nat)=0 from by decide,if_false] at e a;unfold vH at hl;unfold o8 o7;refine⟨za,?_⟩
 split<;>omega
set_option maxRecDepth 100000
theorem Wl (hx:(dg 18446744073709551616 x).length=n+1):wd x n=x / 18446744073709551616^n/\0<wd x n/\bitLen x=64*n+bitLen (wd x n):=by
 have a:x≠0:=by rintro rfl;simp [kF] at hx
 have h1:=ww (b:=18446744073709551616) zf x;have h2:=(tN (b:=18446744073709551616) zf x a).2;rw [hx] at h1 h2;have h3:x / 18446744073709551616^n<18446744073709551616:=(QA (yZ zf)).2 (by rw [QK,<-QD];exact h1);have h4:0<x / 18446744073709551616^n:=Nat.div_pos (by simpa using h2) (yZ zf);have h5:wd x n=x / 18446744073709551616^n:=qC h3;refine⟨h5,za,?_⟩;rw [h5];have e:(18446744073709551616:Nat)^n=2^(64*n):=by rw [show(18446744073709551616:Nat)=2^64 from rfl,<-jK]
 rw [e] at h4⊢;exact bitLen_shift x (64*n) za
theorem Wb (A:ze)(c:Nat)(w:World):Calls prog 122 #[.agg #[.slice A 0 c]] w λe w'=>e=.returned (.bool true)/\Below w.heap.size w w':=U2 A 0 c w
theorem Wt (A:ze)(n c:Nat)(hn:n≠0)(w:World):Calls prog 122 #[.agg #[.slice A n c]] w λe w'=>e=.returned (.bool false)/\Below w.heap.size w w':=by
 have:=U2 A n c w;rw [decide_eq_false hn] at this;exact this
theorem Up (h:(dg 18446744073709551616 x).length=0):x=0:=by
 have h1:=ww (b:=18446744073709551616) zf x;rw [h] at h1;omega
theorem U1 (x:Nat)(A:ze)(n c:Nat)(w:World)(hA:zq w x A n c)(hn:n<=1099511627776):
  Calls prog 159 #[.agg #[.slice A n c]] w λe w'=>e=.returned (.int .i64 (bitLen x:Nat))/\Below w.heap.size w w':=by
 have d:=hA.len;by_cases h0:n=0
 ·subst h0;have hx:x=0:=Up d;subst hx;have HZ:=zb (λw=>Wb A c w);clear d hA;go_enter func159,ntmps159;go_wp2_with fail;refine(HZ.o _).mono ?_;rintro e w1 ⟨rfl,hb⟩;have hB:=zc ((qZ _ w).alloc (qX _) _) hb;clear hb;go_wp2;go_ret;exact⟨rfl,hB⟩
 ·obtain⟨m,rfl⟩:∃m,n=m+1:=⟨n - 1,za⟩;obtain⟨h1,h2,h3⟩:=Wl d;have j:=wU x m;obtain⟨ad,rfl,g,hx⟩:=sy hA.1 (k:=m) za;rw [nD] at hx;have HZ:=zb (λw=>Wt (some ad) (m+1) c za w);have WL:=(λw=>oJ (wd x m:Nat) ⟨za,za⟩ w);have i:bitLen (wd x m)<=64:=cR _ 64 (by simpa using j);have e:tD ((wd x m:Nat):Int)=((bitLen (wd x m):Nat):Int):=by unfold tD;simp
  rw [e] at WL;obtain⟨a,ha⟩:∃a,wd x m=a:=⟨_,rfl⟩;rw [ha] at hx WL i h3;obtain⟨b,h⟩:∃b,bitLen a=b:=⟨_,rfl⟩;rw [h] at WL i h3;have HW:=zb WL;have H3:=zb h3;clear WL h3 h ha e j h1 h2 d h0 hA;go_enter func159,ntmps159;go_wp2_with fail;refine(HZ.o _).mono ?_;rintro e w1 ⟨rfl,hb⟩;have hB:=zc ((qZ _ w).alloc (qX _) _) hb;have g1:w1.cell? ⟨w.heap.size,0,none⟩=some (.slice (some ad) (m+1) c):=zw hb ((zh.new w 48 #[.slice (some ad) (m+1) c]).cell 0);have g2:w1.cell? (ad.add m)=some (.int .u64 a):=(hB.cell (by rw [y4];exact g)).trans hx;clear hb hx;go_wp2_with fail;refine(HW.o _).mono ?_;rintro e w2 ⟨rfl,rfl⟩;go_wp2;go_ret;exact⟨by rw [H3.o];go_num,hB⟩
theorem ms (k:Nat):18446744073709551616^(k / 64)*2^(k%64)=2^k:=by
 rw [show(18446744073709551616:Nat)=2^64 from rfl,<-jK,<-xW,yY]
theorem iz {r:Nat}(h:r<=64):2^(64 - r)*2^r=18446744073709551616:=by
 rw [<-xW,Nat.sub_add_cancel h]
theorem pK (h:b<2^i):2^i*a|||b=2^i*a+b:=(Nat.two_pow_add_eq_or_of_lt h a).symm
theorem Ot (h:b<2^i):b|||2^i*a=2^i*a+b:=by rw [Nat.or_comm];exact pK h
theorem Tz (h:b<2^i)(hab:2^i*a+b<18446744073709551616):bits .or .u64 (b:Int) ((2^i*a:Nat):Int)=((2^i*a+b:Nat):Int):=by
 rw [bits_or_u64_nat _ _ za za,Ot h]
theorem TM (a r:Nat)(hr:r<=64):a*2^r%18446744073709551616=2^r*(a%2^(64 - r)):=by
 rw [<-iz hr,QK (2^(64 - r)),QK a,Nat.mul_mod_mul_left]
theorem oI (x k i:Nat):wd (x / 2^k) i=wd x (k / 64+i) / 2^(k%64)+2^(64 - k%64)*(wd x (k / 64+i+1)%2^(k%64)):=by
 have hr:k%64<=64:=za;have e1:x / 2^k / 18446744073709551616^i=x / 18446744073709551616^(k / 64+i) / 2^(k%64):=by
  rw [XN,XN,<-ms k,xW];congr 1;rw [qL,qL,QK (2^(k%64))]
 have e2:x / 18446744073709551616^(k / 64+i+1)=x / 18446744073709551616^(k / 64+i) / 18446744073709551616:=by
  rw [QD,<-XN]
 unfold wd;rw [e1,e2];generalize x / 18446744073709551616^(k / 64+i)=y;generalize k%64=r at*;have e3:y / 18446744073709551616%18446744073709551616%2^r=y / 18446744073709551616%2^r:=by
  refine Nat.mod_mod_of_dvd _ ?_;rw [<-iz hr];exact Nat.dvd_mul_left _ _
 rw [e3];have e4:y=18446744073709551616*(y / 18446744073709551616)+y%18446744073709551616:=(yY _ _).symm;generalize hq:y / 18446744073709551616=q at*;generalize hm:y%18446744073709551616=m at*;have a:m<18446744073709551616:=za;subst e4;rw [<-iz hr] at a⊢;have e5:2^(64 - r)*2^r*q+m=m+2^r*(2^(64 - r)*q):=by rw [YN,QK (2^(64 - r)) (2^r),qL]
 rw [e5,Nat.add_mul_div_left _ _ (xA r)];have e6:m / 2^r<2^(64 - r):=(QA (xA r)).2 a;have e7:2^(64 - r)*q=2^(64 - r)*2^r*(q / 2^r)+2^(64 - r)*(q%2^r):=by
  rw [qL,<-QQ,yY]
 rw [e7,YN (2^(64 - r)*2^r*(q / 2^r)),<-xC,XI];refine qC ?_;have e8:q%2^r<2^r:=xD _ (xA r);have e9:2^(64 - r)*(q%2^r+1)<=2^(64 - r)*2^r:=QN _ e8;rw [QQ] at e9;omega
def vT (y i:Nat):List Nat:=(List.range i).map (wd y)
theorem kn (y i:Nat):(vT y i).length=i:=by simp [vT]
theorem Zt (y i:Nat):vT y (i+1)=vT y i++[wd y i]:=by simp [vT,XE]
theorem WO (y i:Nat):zK 18446744073709551616 (vT y i):=by
 intro d hd;obtain⟨j,_,rfl⟩:=List.mem_map.1 hd;exact wU y j
theorem V4 (y:Nat):∀i,dv 18446744073709551616 (vT y i)=y%18446744073709551616^i
 |0=>by simp [vT,dv,XZ]
 |i+1=>by rw [Zt,vR,V4 y i,kn,ue 18446744073709551616 y i];rfl
theorem WN (h:(dg 18446744073709551616 y).length<=i):dv 18446744073709551616 (vT y i)=y:=by
 rw [V4];exact qC (qJ (ww zf y) (qA zf h))
theorem Ug (m:Nat):IntKind.u64.wrap (m:Int)=((m%18446744073709551616:Nat):Int):=by
 simp [IntKind.wrap,IntKind.bits,IntKind.signed]
theorem UG {b r:Nat}(ha:a<18446744073709551616)(hr:r<64):
  bits .or .u64 ((a:Int) / 2^r) (IntKind.u64.wrap ((b:Int)*2^(64 - r)))=((a / 2^r+2^(64 - r)*(b%2^r):Nat):Int):=by
 have e1:(a:Int) / 2^r=((a / 2^r:Nat):Int):=zF;have e2:(b:Int)*2^(64 - r)=((b*2^(64 - r):Nat):Int):=zF;have e3:b*2^(64 - r)%18446744073709551616=2^(64 - r)*(b%2^r):=by
  rw [TM b (64 - r) za,show 64 - (64 - r)=r from by omega]
 rw [e1,e2,Ug,e3];have h1:a / 2^r<2^(64 - r):=(QA (xA r)).2 (by rw [iz za];exact ha);have h2:b%2^r<2^r:=xD _ (xA r);have h3:2^(64 - r)*(b%2^r+1)<=2^(64 - r)*2^r:=QN _ h2;rw [iz za,QQ] at h3;rw [Tz h1 za,YN]
structure lM (x m k:Nat)(out:List Nat)(c:Nat):Prop where
 len:out.length=k
 dgs:zK 18446744073709551616 out
 carry:c<m
 sum:dv 18446744073709551616 out+18446744073709551616^k*c=x%18446744073709551616^k*m
theorem lM.start (x m:Nat)(hm:0<m):lM x m 0 [] 0:=⟨rfl,by intro d hd;simp at hd,hm,by simp [dv,XZ]⟩
theorem lM.step {s:Nat}{a:List Nat}(h:lM x m k a c)(hs:s=wd x k*m+c):lM x m (k+1) (a++[s%18446744073709551616]) (s / 18446744073709551616):=by
 have h1:=wU x k;have h3:=h.carry;have h4:(wd x k+1)*m<=18446744073709551616*m:=qS m h1;rw [QB] at h4;refine⟨by simp [h.len],h.dgs.append (by intro d hd;simp at hd;subst hd;exact xD _ zf),(QA zf).2 (by rw [QK m];omega),?_⟩;have e:=h.sum;have e2:18446744073709551616^k*(s%18446744073709551616)+18446744073709551616^k*(18446744073709551616*(s / 18446744073709551616))=18446744073709551616^k*s:=by rw [<-QQ,XP]
 have e3:18446744073709551616^k*s=18446744073709551616^k*wd x k*m+18446744073709551616^k*c:=by rw [hs,QQ,qL]
 rw [vR,h.len,QD,qL (18446744073709551616^k) 18446744073709551616,<-QD,ue 18446744073709551616 x k,QB];unfold wd at e3;omega
theorem lM.done {q:Nat}{a:List Nat}(h:lM x m n a c)(hx:(dg 18446744073709551616 x).length<=n):dv 18446744073709551616 (List.replicate q 0++a++[c])=18446744073709551616^q*m*x:=by
 have e:=h.sum;have h1:x<18446744073709551616^n:=qJ (ww zf x) (qA zf hx);rw [qC h1] at e;rw [xQ,tU,iU,yA,vR,h.len,e,xH,qL,QK m]
theorem TL (a:Nat){r:Nat}(hr:r<64):∃hi lo:Nat,a / 2^(64 - r)=hi/\2^r*(a%2^(64 - r))=lo/\a*2^r=18446744073709551616*hi+lo/\lo+2^r<=18446744073709551616:=by
 refine⟨_,_,rfl,rfl,?_,?_⟩
 ·rw [<-iz (r:=r) za,qL,QK (2^r) (a / 2^(64 - r)),<-qL,QK (2^r),<-QB,yY]
 ·have h2:a%2^(64 - r)<2^(64 - r):=xD _ (xA _);have h3:2^r*(a%2^(64 - r)+1)<=2^r*2^(64 - r):=QN _ h2;rw [QK (2^r) (2^(64 - r)),iz za,QQ,xO] at h3;exact h3
theorem og {a r:Nat}(hr:r<64)(hc:c<2^r):bits .or .u64 (c:Int) (IntKind.u64.wrap ((a:Int)*2^r))=(((a*2^r+c)%18446744073709551616:Nat):Int):=by
 have e2:(a:Int)*2^r=((a*2^r:Nat):Int):=zF;obtain⟨hi,lo,e3,e4,e5,e6⟩:=TL a hr;have e7:2^r*(a%2^(64 - r))+c<18446744073709551616:=by rw [e4];omega
 rw [e2,Ug,TM a r za,Tz hc e7,e4,e5];generalize 2^r=p at*;omega
theorem PX {a r:Nat}(hr:r<64)(hc:c<2^r):(a:Int) / 2^(64 - r)=(((a*2^r+c) / 18446744073709551616:Nat):Int):=by
 have e1:(a:Int) / 2^(64 - r)=((a / 2^(64 - r):Nat):Int):=zF;obtain⟨hi,lo,e3,e4,e5,e6⟩:=TL a hr;rw [e1,e3,e5];generalize 2^r=p at*;omega
theorem lm {α:Type}{P R:List α}{j:Nat}{c z a b:α}(h:P.length=j):((P++c::z::R).set j a).set (j+1) b=P++a::b::R:=by
 subst h;rw [yB _ _ (qX _),XK,qP,yB _ _ za];simp
theorem UP (n:Nat):zH .u64 (List.replicate (n+1) 0)=.int .u64 0::zH .u64 (List.replicate n 0):=by simp [zH,List.replicate_succ]
theorem Ty (cs:Array Value)(l:List Nat)(w:World)(g n x:Nat)(hk:zh w g 133 cs)(hn:cs.size=n)(hv:cs.toList=zH .u64 l)(hd:zK 18446744073709551616 l)(hx:dv 18446744073709551616 l=x)(hs:n<=1000):
  Calls prog 106 #[.slice (some ⟨g,0,none⟩) n n] w (xz w x):=by
 have hl:l.length=n:=by
  have h:=congrArg List.length hv;rw [vd] at h;rw [<-h];simpa using hn
 have:=tz (some ⟨g,0,none⟩) n n l w (iL hk hn (by rw [hv,qV (by rw [vd];omega)]) hl) hd (qX _) za za;rw [hx] at this;exact this
theorem gZ (a:Nat)(ha:a<18446744073709551616):zK 18446744073709551616 [a]:=by intro d hd;simp at hd;omega
theorem bP (w:World)(o:Obj):Below w.heap.size w (w.alloc o):=(qZ _ w).alloc (qX _) o
theorem ji {A:ze}{l:List Nat}(h:zq w x A n c)(hx:dg 18446744073709551616 x=l):n=l.length:=by rw [<-h.len,hx]
def Sz (K x:Nat):Prop:=x<18446744073709551616^K
theorem Sz.of_le (h:Sz K x)(hy:y<=x):Sz K y:=QI hy h
theorem Sz.up (h:Sz K x)(hk:K<=K'):Sz K' x:=qJ h (qA zf hk)
theorem Sz.add (h:Sz K x)(h':Sz K y):Sz (K+1) (x+y):=by
 unfold Sz at*;rw [QD];omega
theorem Sz.mul (h:Sz K x)(h':Sz K' y):Sz (K+K') (x*y):=by
 unfold Sz at*;rw [xW];exact YO h h'
theorem Sz.len (h:Sz K x):(dg 18446744073709551616 x).length<=K:=lI zf _ _ h
theorem Sz.words (h:Sz K x){w:World}{A:ze}{n c:Nat}(hw:zq w x A n c):n<=K:=by rw [<-hw.len];exact h.len
theorem jO (h:x=0){w:World}{A:ze}{n c:Nat}(hA:zq w x A n c):Calls prog 122 #[.agg #[.slice A n c]] w λe w'=>e=.returned (.bool true)/\Below w.heap.size w w':=by
 subst h;obtain rfl:n=0:=ji hA (kF _);exact Wb A c w
theorem kI (h:x≠0){w:World}{A:ze}{n c:Nat}(hA:zq w x A n c):Calls prog 122 #[.agg #[.slice A n c]] w λe w'=>e=.returned (.bool false)/\Below w.heap.size w w':=
 Wt A n c (λh0=>h (Up (by rw [hA.len];exact h0))) w
theorem gX {x y:Nat}(h:x=y){w:World}{A D:ze}{n m c d:Nat}(hA:zq w x A n c)(hD:zq w y D m d)(hn:n<=1099511627776)(hm:m<=1099511627776):
  Calls prog 56 #[.agg #[.slice A n c],.agg #[.slice D m d]] w (vU w 0):=by
 have:=jW x y A D n m c d w hA hD hn hm;rwa [gn h] at this
