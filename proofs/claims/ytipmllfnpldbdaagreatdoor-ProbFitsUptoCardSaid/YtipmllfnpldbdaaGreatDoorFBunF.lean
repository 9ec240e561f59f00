/- What this claim leans on. -/
import Derived.Test.YtipmllfnpldbdaaGreatDoorFBunQ
import Derived.Deep.RegionLaw
import Derived.Laws.BytesArg
set_option linter.unusedVariables false
set_option linter.unusedSimpArgs false
namespace Go.Proofs.YtipmllfnpldbdaaGreatDoor
open Go Go.RowKit
set_option maxHeartbeats 16000000
variable {y:Int}{D M:List Nat}{b b' g i j x:Nat}{v v':Value}{w w':World}
def ur (x y:Int):Int:=if x<y then -1 else if x=y then 0 else 1
theorem jc (x y:Int):ur x y=0↔x=y:=by unfold ur;split<;>(try split)<;>omega
def vA (x:Int):Int:=if x<0 then -1 else if x=0 then 0 else 1
def qI (x y:Int):Int:=if 0<=y then x / y else(-x) / (-y)
def rI (x y:Int):Int:=if 0<=y then x%y else -((-x)%(-y))
theorem lj (x y:Int):qI x y*y+rI x y=x:=by
 unfold qI rI
 split
 ·rw [XV];exact XY x y
 ·have h:=XY (-x) (-y);rw [Int.neg_mul] at h;rw [XV];omega
theorem sh {x:Int}(hy:y≠0):(rI x y).natAbs<y.natAbs:=by
 unfold rI
 split
 ·have h1:=yL x hy;have h2:=yJ x (show 0<y by omega);omega
 ·have h1:=yL (-x) (show -y≠0 by omega);have h2:=yJ (-x) (show 0< -y by omega);omega
theorem pc {x:Int}(hy:y≠0):rI x y=0\/(0<rI x y/\0<y\/rI x y<0/\y<0):=by
 unfold rI
 split
 ·have h1:=yL x hy;omega
 ·have h1:=yL (-x) (show -y≠0 by omega);omega
theorem jQ (a:Int)(g:Nat):(a / (g:Int)).natAbs<=a.natAbs:=by
 rcases QR g with rfl|hg
 ·simp
 ·exact Int.natAbs_ediv_le_natAbs a g
theorem Xh (a b:Rat):(a+b).num.natAbs<=a.num.natAbs*b.den+b.num.natAbs*a.den:=by
 rw [Rat.num_add];refine qA (jQ _ _) (qA (Int.natAbs_add_le _ _) ?_);rw [xA,xA,XS,XS];exact qX _
theorem YF (a b:Rat):(a+b).den<=a.den*b.den:=by rw [Rat.den_add];exact xK _ _
theorem Ye (a b:Rat):(a*b).num.natAbs<=a.num.natAbs*b.num.natAbs:=by
 rw [Rat.num_mul];refine qA (jQ _ _) ?_;rw [xA];exact qX _
theorem YI (a b:Rat):(a*b).den<=a.den*b.den:=by rw [Rat.den_mul];exact xK _ _
theorem Xi (a:Rat):(a⁻¹).num.natAbs<=a.den:=by
 rw [Rat.num_inv,xA,XS];by_cases h:a.num=0
 ·simp [h]
 ·rw [Int.natAbs_sign_of_ne_zero h,XK];exact qX _
theorem aZ (p q:Int):(Rat.divInt p q).num.natAbs<=p.natAbs:=by
 rw [Rat.num_divInt];refine qA (jQ _ _) ?_;rw [xA];by_cases h:q=0
 ·simp [h]
 ·rw [Int.natAbs_sign_of_ne_zero h,XK];exact qX _
def yj (b:Nat)(r:Rat):Prop:=r.num.natAbs<b/\r.den<b
theorem yj.up {r:Rat}(h:yj b r)(hb:b<=b'):yj b' r:=⟨qJ h.1 hb,qJ h.2 hb⟩
theorem yj.pos {r:Rat}(h:yj b r):1<b:=QS (xL r.den_nz) h.2
theorem yj.add {r s:Rat}(h:yj b r)(h':yj b' s):yj (2*(b*b')) (r+s):=by
 have h1:r.num.natAbs*s.den<b*b':=yY h.1 h'.2;have h2:s.num.natAbs*r.den<b*b':=by rw [qE b b'];exact yY h'.1 h.2
 have h3:r.den*s.den<b*b':=yY h.2 h'.2;have h4:=Xh r s;have h5:=YF r s;exact⟨za,za⟩
theorem yj.mul {r s:Rat}(h:yj b r)(h':yj b' s):yj (b*b') (r*s):=
 ⟨QS (Ye r s) (yY h.1 h'.1),QS (YI r s) (yY h.2 h'.2)⟩
theorem yj.neg {r:Rat}(h:yj b r):yj b (-r):=⟨by rw [Rat.neg_num,Int.natAbs_neg];exact h.1,h.2⟩
theorem yj.sub {r s:Rat}(h:yj b r)(h':yj b' s):yj (2*(b*b')) (r - s):=by rw [Rat.sub_eq_add_neg];exact h.add h'.neg
theorem yj.inv {r:Rat}(h:yj b r):yj b r⁻¹:=by
 refine⟨QS (Xi r) h.2,?_⟩;rw [Rat.den_inv]
 split
 ·exact h.pos
 ·exact h.1
theorem yj.made {p q:Int}(hp:p.natAbs<b)(hq:q.natAbs<b)(hb:1<b):yj b (Rat.divInt p q):=by
 refine⟨QS (aZ p q) hp,?_⟩;rw [Rat.den_divInt]
 split
 ·exact hb
 ·exact QS (xK _ _) hq
theorem yj.whole {z:Int}(hz:z.natAbs<b)(hb:1<b):yj b (z:Rat):=⟨by rw [yP];exact hz,by rw [yO];exact hb⟩
def xp (r s:Rat):Int:=if r<s then -1 else if r=s then 0 else 1
theorem ZZ (r s:Rat):xp r s=ur (r.num*s.den) (s.num*r.den):=by
 unfold xp ur;by_cases h1:r<s
 ·rw [if_pos h1,if_pos ((Rat.lt_iff r s).1 h1)]
 ·rw [if_neg h1,if_neg (λh=>h1 ((Rat.lt_iff r s).2 h))];by_cases h2:r=s
  ·rw [if_pos h2,if_pos (Rat.eq_iff_mul_eq_mul.1 h2)]
  ·rw [if_neg h2,if_neg (λh=>h2 (Rat.eq_iff_mul_eq_mul.2 h))]
theorem rT (r s:Rat):xp r s=0↔r=s:=by
 unfold xp;by_cases h1:r<s
 ·rw [if_pos h1];constructor
  ·intro h;omega
  ·intro h;exact absurd h (Rat.ne_of_lt h1)
 ·rw [if_neg h1];by_cases h2:r=s<;>simp [h2]
def vz (r:Rat):Int:=vA r.num
theorem qt (r:Rat):0<r.num↔0<r:=by
 have h1:=Rat.num_nonneg (q:=r);have h2:=Rat.num_eq_zero (q:=r);constructor
 ·intro h;exact Rat.lt_of_le_of_ne (h1.1 za) (λe=>by have:=h2.2 e.symm;omega)
 ·intro h;have a:=h1.2 (Rat.le_of_lt h);have b:r.num≠0:=λe=>by rw [h2.1 e] at h;exact Rat.lt_irrefl h
  omega
theorem cH (r:Rat):r.num<0↔r<0:=by
 have h1:=qt (-r);rw [Rat.neg_num] at h1;constructor
 ·intro h;have:=h1.1 za;have h3:=Rat.neg_lt_neg this;rwa [Rat.neg_neg,Rat.neg_zero] at h3
 ·intro h;have h3:=Rat.neg_lt_neg h;rw [Rat.neg_zero] at h3;have:=h1.2 h3;omega
def o6 (r s:Rat):Rat:=if xp r s<=0 then r else s
def jv (r s:Rat):Rat:=if xp r s<=0 then s else r
theorem tK (p q:Int)(hq:q≠0):(Rat.divInt p q).num.natAbs=p.natAbs / Nat.gcd p.natAbs q.natAbs:=by
 rw [Rat.num_divInt,Int.gcd];have hd:(Nat.gcd q.natAbs p.natAbs:Int)∣ q.sign*p:=Int.dvd_trans (Int.ofNat_dvd_left.2 (XX ..)) (Int.dvd_mul_left ..);rw [Int.natAbs_ediv_of_dvd hd,xA,Int.natAbs_sign_of_ne_zero hq,XK,XS,XB]
theorem tJ (p q:Int)(hq:q≠0):(Rat.divInt p q).den=q.natAbs / Nat.gcd p.natAbs q.natAbs:=by
 rw [Rat.den_divInt,if_neg hq,Int.gcd,XB]
theorem WV (p q:Int)(hq:q≠0):(Rat.divInt p q).num<0↔(p<0/\0<q\/0<p/\q<0):=by
 rw [Rat.num_divInt];have a:0<(q.gcd p:Int):=by
  have:0<q.gcd p:=Int.gcd_pos_of_ne_zero_left p hq;omega
 have e:q.sign*p / (q.gcd p:Int)<0↔q.sign*p<0:=by
  constructor
  ·intro h;refine Int.not_le.1 λh1=>?_;have:=yH h1 (Int.le_of_lt a);omega
  ·intro h;exact Int.ediv_neg_of_neg_of_pos h a
 rw [e];rcases Int.lt_or_gt_of_ne hq with h|h
 ·rw [Int.sign_eq_neg_one_of_neg h];omega
 ·rw [Int.sign_eq_one_of_pos h];omega
def yn (w:World)(t:TypeId)(g cap n:Nat)(L:List Nat):Prop:=
 ∃cur,zi w g t cur/\n<=cap/\cap<=maxLen/\cur.size=cap/\L.length=n/\cur.toList.take n=zv .u8 L
section
variable {w w':World}{t:TypeId}{g cap n:Nat}{L:List Nat}
theorem yn.len (h:yn w t g cap n L):L.length=n:=by obtain⟨_,_,_,_,_,h,_⟩:=h;exact h
theorem yn.room (h:yn w t g cap n L):n<=cap/\cap<=maxLen:=by obtain⟨_,_,h,h2,_⟩:=h;exact⟨h,h2⟩
theorem yn.lt (h:yn w t g cap n L):g<w.heap.size:=by obtain⟨_,h,_⟩:=h;exact h.lt
theorem yn.cell (h:yn w t g cap n L)(k:Nat)(hk:k<n):w.cell? ⟨g,k,none⟩=some (.int .u8 (L.getD k 0:Nat)):=by
 obtain⟨cur,hb,h1,h2,h3,h4,h5⟩:=h;rw [hb.cell k,<-QL,<-ot .u8 L k za,<-h5,yK,if_pos hk]
theorem yn.frozen (h:yn w t g cap n L)(k:Nat):w.frozen? ⟨g,k,none⟩=false:=by
 obtain⟨cur,hb,_⟩:=h;exact hb.frozen k
theorem yn.set_ (h:yn w t g cap n L)(k d:Nat)(hk:k<n):yn (w.setCell ⟨g,k,none⟩ (.int .u8 (d:Int))) t g cap n (L.set k d):=by
 obtain⟨cur,hb,h1,h2,h3,h4,h5⟩:=h;refine⟨_,hb.set_ k _,h1,h2,by simpa using h3,by simpa using h4,?_⟩;rw [xV,YO,h5];unfold zv;rw [List.map_set]
theorem yn.below {B:Nat}(h:yn w t g cap n L)(hb:Below B w w')(hg:g<B):yn w' t g cap n L:=by
 obtain⟨a,h0,h1⟩:=h;exact⟨a,h0.below hb hg,h1⟩
theorem yn.keep (h:yn w t g cap n L)(hb:Below w.heap.size w w'):yn w' t g cap n L:=h.below hb h.lt
theorem yn.drew (h:yn w t g cap n L):yn w.drew t g cap n L:=h
theorem yn.alloc (h:yn w t g cap n L)(o:Obj):yn (w.alloc o) t g cap n L:=by
 obtain⟨a,h0,h1⟩:=h;exact⟨a,h0.alloc o,h1⟩
theorem yn.far (h:yn w t g cap n L){p:Addr}(hp:g≠p.block)(u:Value):yn (w.setCell p u) t g cap n L:=by
 obtain⟨a,h0,h1⟩:=h;exact⟨a,h0.far hp u,h1⟩
theorem yn.reads (h:yn w t g cap n L):zE w w.heap.size 1 (some ⟨g,0,none⟩) n (zv .u8 L):=by
 have hl:=h.lt;have hc:=h.cell;have hn:=h.len;refine⟨by rw [xn];omega,λ_=>⟨_,rfl,hl,λj u hu=>?_⟩⟩;have hj:j<L.length:=by
  rcases xB j L.length with hj|hj
  ·exact hj
  ·rw [xP (by rw [xn];exact hj)] at hu;cases hu
 have e:(⟨g,0,none⟩:Addr).add j=⟨g,j,none⟩:=by unfold Addr.add;split<;>simp_all
 rw [e,hc j za,<-ot .u8 L j hj,hu]
theorem yn.own (h:yn w t g cap n L){a:Nat}(hb:a<=g):w.ownsRow a t 1 (.slice (some ⟨g,0,none⟩) n cap) n (zv .u8 L):=by
 obtain⟨d,h0,h1,h2,h3,h4,h5⟩:=h;exact⟨by rw [xn];omega,.inr ⟨g,cap,d,rfl,hb,h0,h1,h2,za,by rw [xO];exact h5⟩⟩
theorem yn.made (w:World)(t:TypeId)(N:Nat)(hN:N<=maxLen):yn (w.alloc (.cells (madeCells (Value.cells (.int .u8 0)) N) t)) t w.heap.size N N (List.replicate N 0):=by
 refine⟨_,zi.new w t _,qX _,hN,size_madeCells _ _,zD,?_⟩;show(madeCells #[Value.int .u8 0] N).toList.take N=_;rw [toList_madeCells_one,qU zD];simp [zv]
theorem yn.of_own {l:List Nat}(h:w.ownsRow j t 1 v n (zv .u8 l))(hn:0<n):∃g i,v=.slice (some ⟨g,0,none⟩) n i/\j<=g/\yn w t g i n l:=by
 obtain⟨h1,h2⟩:=h;rcases h2 with⟨_,h⟩|⟨g,i,cur,e,hb,hk,a,b,c,d⟩
 ·omega
 ·refine⟨g,i,e,hb,cur,hk,a,b,za,by rw [xn] at h1;omega,?_⟩;rw [xO] at d;exact d
end
set_option maxRecDepth 100000
structure un (w:World)(v:Value)(w':World)(v':Value):Prop where
 grown:w.grownBy w' v.ownBlock
 at_:v'.ownBlock=v.ownBlock\/∀g,v'.ownBlock=some g->w.heap.size<=g
theorem un.refl (w:World)(v:Value):un w v w v:=⟨World.grownBy.refl _ _,.inl rfl⟩
theorem un.alloc (w:World)(v:Value)(o:Obj):un w v (w.alloc o) v:=⟨yM w o _,.inl rfl⟩
theorem un.trans {w1 w2:World}{v1 v2:Value}(h:un w v w1 v1)(k:un w1 v1 w2 v2):un w v w2 v2:=by
 refine⟨⟨k.grown.os.trans h.grown.os,k.grown.tape.trans h.grown.tape,k.grown.output.trans h.grown.output,qA h.grown.size k.grown.size,λi hi a=>?_⟩,?_⟩
 ·refine(k.grown.block i (qJ hi h.grown.size) (λe=>?_)).trans (h.grown.block i hi a);rcases h.at_ with h1|h1
  ·exact a (by rw [e,h1])
  ·have:=h1 i e.symm;omega
 ·rcases k.at_ with k1|k1
  ·rw [k1];exact h.at_
  ·exact .inr λg hg=>qA h.grown.size (k1 g hg)
theorem un.below (hb:Below w.heap.size w w'):un w v w' v:=⟨⟨hb.os,hb.tape,hb.output,hb.size,λi hi _=>hb.block i hi⟩,.inl rfl⟩
def wC (n p:Nat):List Nat:=(List.range n).map λk=>p / 10^k%10
theorem dU (n p:Nat):(wC n p).length=n:=by simp [wC]
theorem WU (n p:Nat):wC (n+1) p=wC n p++[p / 10^n%10]:=by simp [wC,YC]
theorem tH (n p:Nat):zC 10 (wC n p):=by
 intro d hd;obtain⟨j,_,rfl⟩:=List.mem_map.1 hd;exact QN _ zh
theorem bO (p:Nat):∀n,dv 10 (wC n p)=p%10^n
 |0=>by simp [wC,dv,xD]
 |n+1=>by rw [WU,wE,bO p n,dU,wO 10 p n]
theorem dQ (l:List Nat)(i k a:Nat):(l.set i a).getD k 0=if i=k/\k<l.length then a else l.getD k 0:=by
 simp only [qQ,List.getElem?_set];by_cases h:i=k
 ·subst h;by_cases h2:i<l.length
  ·simp [h2]
  ·simp [h2]
 ·simp [h]
def lZ (L:List Nat)(i:Nat)(M:List Nat):Prop:=M.length=L.length/\∀j,j<L.length->M.getD j 0=if j<i\/L.length<=j+i then L.getD (L.length - 1 - j) 0 else L.getD j 0
theorem lZ.step {L:List Nat}(h:lZ L i M)(hij:i+j+1=L.length)(hlt:i<j):lZ L (i+1) ((M.set i (M.getD j 0)).set j (M.getD i 0)):=by
 obtain⟨h1,h2⟩:=h;refine⟨by simpa using h1,λk hk=>?_⟩;rw [dQ,dQ,YH,h1];by_cases hkj:j=k
 ·subst hkj;rw [if_pos ⟨rfl,hk⟩,if_pos za,h2 i za,if_neg za];congr 1;omega
 ·rw [if_neg za];by_cases hki:i=k
  ·subst hki;rw [if_pos ⟨rfl,hk⟩,if_pos za,h2 j za,if_neg za];congr 1;omega
  ·rw [if_neg za,h2 k hk];by_cases hc:k<i\/L.length<=k+i
   ·rw [if_pos hc,if_pos za]
   ·rw [if_neg hc,if_neg za]
theorem lZ.done {L:List Nat}(h:lZ L i M)(hij:i+j+1=L.length)(hle:j<=i):M=L.reverse:=by
 obtain⟨h1,h2⟩:=h;refine YD (by simpa using h1) λk hk hk2=>?_;have h3:=h2 k za;rw [qQ,qZ hk] at h3;rw [List.getElem_reverse];have e1:L[L.length - 1 - k]' za=L.getD (L.length - 1 - k) 0:=by rw [qQ,qZ za];rfl
 rw [e1];refine Eq.trans h3 ?_;by_cases hc:k<i\/L.length<=k+i
 ·rw [if_pos hc]
 ·rw [if_neg hc];congr 1;omega
theorem zY.drew (h:zY g w w'):zY g w w'.drew:=⟨h.os,h.tape,h.output,h.size,h.block⟩
def uJ (v:Value)(B:zf)(m:Nat):Prop:=0<m->∀ad,B=some ad->v.ownBlock≠some ad.block
theorem uJ.words {m d:Nat}{B:zf}(h:uJ v B m)(hx:zo w x B m d)(hg:un w v w' v'):zo w' x B m d/\uJ v' B m:=by
 refine⟨fG hx hg.grown (λhm ad e=>(h hm ad e).symm),λhm ad e=>?_⟩;rcases hg.at_ with h1|h1
 ·rw [h1];exact h hm ad e
 ·intro h2;have:=h1 _ h2;obtain⟨ad',e',hb,_⟩:=hx.1.2 hm;rw [e] at e';injection e' with e';subst e';omega
theorem un.blk {a n:Nat}{t e:TypeId}{cs:Array Value}{vs:List Value}(h:un w v w' v')(hv:w.ownsRow a e 1 v n vs)(hk:zi w g t cs)(hg:g<a):zi w' g t cs:=
 hk.grown h.grown (λe=>by have:=(hv.lt g e.symm).1;omega)
def mc (x y:Nat)(D:List Nat):Prop:=zC 10 D/\dv 10 D+10^D.length*y=x
theorem mc.step {y:Nat}(h:mc x y D):mc x (y / 10000000000000000000) (D++wC 19 (y%10000000000000000000)):=by
 refine⟨h.1.append (tH _ _),?_⟩;rw [vM,qB,dU,bO,xU,show(10:Nat)^19=10000000000000000000 from rfl,Nat.mod_mod,qV,xR,<-qS,xS];exact h.2
theorem mc.done (h:mc x 0 D):dv 10 D=x:=by have:=h.2;simpa using this
theorem mc.len {y:Nat}(h:mc x y D)(hy:y≠0):10^D.length<=x:=by
 have:=h.2;have h1:10^D.length*1<=10^D.length*y:=QV _ za;omega
