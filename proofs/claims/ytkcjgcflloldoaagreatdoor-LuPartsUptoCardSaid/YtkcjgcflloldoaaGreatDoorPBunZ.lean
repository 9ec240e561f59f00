/- What this claim leans on. -/
import Derived.Test.YtkcjgcflloldoaaGreatDoorPBunO
import Derived.Test.YtkcjgcflloldoaaGreatDoorPBunM
import Derived.BigRegion
import Derived.IntWalk
import Derived.Laws.BytesArg
set_option linter.unusedVariables false
set_option linter.unusedSimpArgs false
namespace Go.Proofs.YtkcjgcflloldoaaGreatDoor
open Go Go.RowKit Go.Proofs.Tryz
open Go.ChangeShapes Go.WideShapes Go.ChangeAt
set_option maxHeartbeats 16000000
namespace UA
set_option maxHeartbeats 16000000
theorem im {H:Type}(d:DataW H):1<=Rows.uptoBulk d:=by
 cases d with
 |lit l=>cases l<;>simp [Rows.uptoBulk]
 |nil=>simp [Rows.uptoBulk]
 |ptr d=>simp [Rows.uptoBulk]
 |slice elems spare=>simp [Rows.uptoBulk]
 |agg parts=>simp [Rows.uptoBulk]
 |iface t d=>simp [Rows.uptoBulk]
 |map entries=>simp [Rows.uptoBulk]
 |held h=>simp [Rows.uptoBulk]
theorem UZ {H:Type}(l:List (DataW H)):l.length<=Rows.uptoBulkAll l:=by
 induction l with
 |nil=>simp [Rows.uptoBulkAll]
 |cons x r ih=>have:=im x;simp only [Rows.uptoBulkAll,xO];omega
theorem slice_le {H:Type}(a c:List (DataW H)):a.length+c.length+1<=Rows.uptoBulk (.slice a c):=by
 have h1:=UZ a;have h2:=UZ c;simp only [Rows.uptoBulk];omega
end UA
open Go Go.RowKit Go.Proofs.Tryz
open Go.ChangeShapes Go.WideShapes Go.ChangeAt Go.Deep
set_option maxHeartbeats 16000000
open Go Go.RowKit Go.Proofs.Tryz
open Go.ChangeShapes Go.WideShapes Go.ChangeAt Go.Deep
set_option maxHeartbeats 16000000
open Go Go.RowKit Go.Proofs.Tryz
set_option maxHeartbeats 16000000
open Go Go.RowKit Go.Proofs.Tryz
set_option maxHeartbeats 16000000
open Go Go.RowKit Go.Proofs.Tryz
set_option maxHeartbeats 16000000
open Go Go.RowKit Go.Proofs.Tryz
set_option maxHeartbeats 16000000
variable {y:Int}{b b':Nat}{s:Rat}
def sK (x y:Int):Int:=if x<y then -1 else if x=y then 0 else 1
theorem Zq (x y:Int):sK x y=0↔x=y:=by unfold sK;split<;>(try split)<;>omega
def vY (x:Int):Int:=if x<0 then -1 else if x=0 then 0 else 1
theorem lD (x:Int):vY x=0↔x=0:=by unfold vY;split<;>(try split)<;>omega
def qI (x y:Int):Int:=if 0<=y then x / y else(-x) / (-y)
def rI (x y:Int):Int:=if 0<=y then x%y else -((-x)%(-y))
theorem eM (x y:Int):qI x y*y+rI x y=x:=by
 unfold qI rI
 split
 ·rw [yS];exact yU x y
 ·have h:=yU (-x) (-y);rw [Int.neg_mul] at h;rw [yS];omega
theorem pW {x:Int}(hy:y≠0):(rI x y).natAbs<y.natAbs:=by
 unfold rI
 split
 ·have h1:=YM x hy;have h2:=YB x (show 0<y by omega);omega
 ·have h1:=YM (-x) (show -y≠0 by omega);have h2:=YB (-x) (show 0< -y by omega);omega
theorem lr {x:Int}(hy:y≠0):rI x y=0\/(0<rI x y/\0<y\/rI x y<0/\y<0):=by
 unfold rI
 split
 ·have h1:=YM x hy;omega
 ·have h1:=YM (-x) (show -y≠0 by omega);omega
open Go Go.RowKit Go.Proofs.Tryz
set_option maxHeartbeats 16000000
theorem Yg (a:Int)(g:Nat):(a / (g:Int)).natAbs<=a.natAbs:=by
 rcases xQ g with rfl|hg
 ·simp
 ·exact Int.natAbs_ediv_le_natAbs a g
theorem Oe (a b:Rat):(a+b).num.natAbs<=a.num.natAbs*b.den+b.num.natAbs*a.den:=by
 rw [Rat.num_add];refine qD (Yg _ _) (qD (Int.natAbs_add_le _ _) ?_);rw [xN,xN,XH,XH];exact qX _
theorem PV (a b:Rat):(a+b).den<=a.den*b.den:=by rw [Rat.den_add];exact QI _ _
theorem Og (a b:Rat):(a*b).num.natAbs<=a.num.natAbs*b.num.natAbs:=by
 rw [Rat.num_mul];refine qD (Yg _ _) ?_;rw [xN];exact qX _
theorem PW (a b:Rat):(a*b).den<=a.den*b.den:=by rw [Rat.den_mul];exact QI _ _
theorem Of (a:Rat):(a⁻¹).num.natAbs<=a.den:=by
 rw [Rat.num_inv,xN,XH];by_cases h:a.num=0
 ·simp [h]
 ·rw [Int.natAbs_sign_of_ne_zero h,yP];exact qX _
theorem Ru (p q:Int):(Rat.divInt p q).num.natAbs<=p.natAbs:=by
 rw [Rat.num_divInt];refine qD (Yg _ _) ?_;rw [xN];by_cases h:q=0
 ·simp [h]
 ·rw [Int.natAbs_sign_of_ne_zero h,yP];exact qX _
def xf (b:Nat)(r:Rat):Prop:=r.num.natAbs<b/\r.den<b
theorem xf.up {r:Rat}(h:xf b r)(hb:b<=b'):xf b' r:=⟨qJ h.1 hb,qJ h.2 hb⟩
theorem xf.pos {r:Rat}(h:xf b r):1<b:=QO (xT r.den_nz) h.2
theorem xf.add {r:Rat}(h:xf b r)(h':xf b' s):xf (2*(b*b')) (r+s):=by
 have h1:r.num.natAbs*s.den<b*b':=XP h.1 h'.2;have h2:s.num.natAbs*r.den<b*b':=by rw [qB b b'];exact XP h'.1 h.2
 have h3:r.den*s.den<b*b':=XP h.2 h'.2;have h4:=Oe r s;have h5:=PV r s;exact⟨za,za⟩
theorem xf.mul {r:Rat}(h:xf b r)(h':xf b' s):xf (b*b') (r*s):=
 ⟨QO (Og r s) (XP h.1 h'.1),QO (PW r s) (XP h.2 h'.2)⟩
theorem xf.neg {r:Rat}(h:xf b r):xf b (-r):=⟨by rw [Rat.neg_num,Int.natAbs_neg];exact h.1,h.2⟩
theorem xf.sub {r:Rat}(h:xf b r)(h':xf b' s):xf (2*(b*b')) (r - s):=by rw [Rat.sub_eq_add_neg];exact h.add h'.neg
theorem xf.inv {r:Rat}(h:xf b r):xf b r⁻¹:=by
 refine⟨QO (Of r) h.2,?_⟩;rw [Rat.den_inv]
 split
 ·exact h.pos
 ·exact h.1
theorem xf.div {r:Rat}(h:xf b r)(h':xf b' s):xf (b*b') (r / s):=by rw [Rat.div_def];exact h.mul h'.inv
theorem xf.made {p q:Int}(hp:p.natAbs<b)(hq:q.natAbs<b)(hb:1<b):xf b (Rat.divInt p q):=by
 refine⟨QO (Ru p q) hp,?_⟩;rw [Rat.den_divInt]
 split
 ·exact hb
 ·exact QO (QI _ _) hq
theorem xf.whole {z:Int}(hz:z.natAbs<b)(hb:1<b):xf b (z:Rat):=⟨by rw [yH];exact hz,by rw [YU];exact hb⟩
def tp (r s:Rat):Int:=if r<s then -1 else if r=s then 0 else 1
theorem PT (r s:Rat):tp r s=sK (r.num*s.den) (s.num*r.den):=by
 unfold tp sK;by_cases h1:r<s
 ·rw [if_pos h1,if_pos ((Rat.lt_iff r s).1 h1)]
 ·rw [if_neg h1,if_neg (λh=>h1 ((Rat.lt_iff r s).2 h))];by_cases h2:r=s
  ·rw [if_pos h2,if_pos (Rat.eq_iff_mul_eq_mul.1 h2)]
  ·rw [if_neg h2,if_neg (λh=>h2 (Rat.eq_iff_mul_eq_mul.2 h))]
theorem nW (r s:Rat):tp r s=0↔r=s:=by
 unfold tp;by_cases h1:r<s
 ·rw [if_pos h1];constructor
  ·intro h;omega
  ·intro h;exact absurd h (Rat.ne_of_lt h1)
 ·rw [if_neg h1];by_cases h2:r=s<;>simp [h2]
def sB (r:Rat):Int:=vY r.num
def eI (r s:Rat):Rat:=if tp r s<=0 then r else s
theorem dQ (r:Rat):r*(r.den:Rat)=(r.num:Rat):=by
 have h0:(r.den:Rat)≠0:=λh=>r.den_nz (by
  have:=congrArg Rat.num h;rw [Rat.num_natCast] at this;exact Int.ofNat.inj this)
 have h1:r=(r.num:Rat) / ((r.den:Int):Rat):=by
  have:=Rat.num_divInt_den r;rw [Rat.divInt_eq_div] at this;exact this.symm
 have h2:((r.den:Int):Rat)=(r.den:Rat):=rfl;rw [h2] at h1;generalize r.num=p at*;generalize r.den=q at*;rw [h1,Rat.div_mul_cancel h0]
theorem TV (p q:Int)(hq:q≠0):(Rat.divInt p q).num.natAbs=p.natAbs / Nat.gcd p.natAbs q.natAbs:=by
 rw [Rat.num_divInt,Int.gcd];have hd:(Nat.gcd q.natAbs p.natAbs:Int)∣ q.sign*p:=Int.dvd_trans (Int.ofNat_dvd_left.2 (yK ..)) (Int.dvd_mul_left ..);rw [Int.natAbs_ediv_of_dvd hd,xN,Int.natAbs_sign_of_ne_zero hq,yP,XH,XN]
theorem TU (p q:Int)(hq:q≠0):(Rat.divInt p q).den=q.natAbs / Nat.gcd p.natAbs q.natAbs:=by
 rw [Rat.den_divInt,if_neg hq,Int.gcd,XN]
theorem U2 (p q:Int)(hq:q≠0):(Rat.divInt p q).num<0↔(p<0/\0<q\/0<p/\q<0):=by
 rw [Rat.num_divInt];have a:0<(q.gcd p:Int):=by
  have:0<q.gcd p:=Int.gcd_pos_of_ne_zero_left p hq;omega
 have e:q.sign*p / (q.gcd p:Int)<0↔q.sign*p<0:=by
  constructor
  ·intro h;refine Int.not_le.1 λh1=>?_;have:=YE h1 (Int.le_of_lt a);omega
  ·intro h;exact Int.ediv_neg_of_neg_of_pos h a
 rw [e];rcases Int.lt_or_gt_of_ne hq with h|h
 ·rw [Int.sign_eq_neg_one_of_neg h];omega
 ·rw [Int.sign_eq_one_of_pos h];omega
open Go Go.RowKit Go.Proofs.Tryz
set_option maxHeartbeats 16000000
set_option maxRecDepth 100000
theorem VU (p q r s:Nat)(hp:p<18446744073709551616)(hq:q<18446744073709551616)(hr:r<18446744073709551616)(hs:s<18446744073709551616)(w:World):
  Calls prog 146 #[.int .u64 p,.int .u64 q,.int .u64 r,.int .u64 s] w λe w'=>e=.returned (.tuple #[.int .u64 (((p*q+r+s) / 18446744073709551616:Nat):Int),.int .u64 (((p*q+r+s)%18446744073709551616:Nat):Int)])/\w=w':=by
 have h:=PI p q r s ⟨za,za⟩ ⟨za,za⟩ ⟨za,za⟩ ⟨za,za⟩ w;rw [(py p q r s).1,(py p q r s).2] at h;exact h
theorem aZ (x y:Nat)(A D:ze)(n m c d:Nat)(w:World)(hA:zo w x A n c)(hD:zo w y D m d)(hn:n<=274877906944)(hm:m<=274877906944):
  Calls prog 113 #[.agg #[.slice A n c],.agg #[.slice D m d]] w (wh w (x*y)):=by
 obtain⟨i0,ae,ai,aj,ak⟩:=info_parts o6;have af:=zb hA.len;have U:=zb hD.len;have HA:=zj w (λw' hb=>hA.below hb);have HW:=(λw' (hb:Below w.heap.size w w')=>ji y D m d w' (hD.below hb) za);unfold jy at HW;rw [U.o] at HW;have X:=zb HW;obtain⟨N,hN⟩:∃N,n+m=N:=⟨_,rfl⟩;have HN:=zb hN;have hN1:N<=549755813888:=za;obtain⟨Z,hZ⟩:∃Z,madeCells (Value.cells (.int .u64 0)) N=Z:=⟨_,rfl⟩;have ag:∀W:World,(Instr.makeSlice 48 (.int .i64 ((n:Int)+(m:Int))) (.int .i64 ((n:Int)+(m:Int)))).run prog W=.ok (.slice (some ⟨W.heap.size,0,none⟩) N N) (W.alloc (.cells Z 125)):=λW=>by
  have h:=sV _ _ i0 _ underlying48 ae ai .i64 .i64 N N (qX _) (by rw [ak];omega) za W;rw [aj,xS,hZ] at h;rw [show(n:Int)+(m:Int)=(N:Int) from by omega];exact h
 have HZ:=zb hZ;clear hZ hA hD hN HW;go_enter func113,ntmps113;go_wp2_with fail;generalize hW:((w.alloc (.cells #[.slice A n c] 50)).alloc (.cells #[.slice D m d] 50)).alloc (.cells #[.slice none 0 0] 50)=W0;obtain⟨b1,b2,b3,b4,b5⟩:=yF w 50 50 50 #[.slice A n c] #[.slice D m d] #[.slice none 0 0];rw [hW] at b1 b2 b3 b4 b5;have g1:W0.cell? ⟨w.heap.size,0,none⟩=some (.slice A n c):=b2.cell 0;clear hW b2 b3;refine(X.o _ b1).mono ?_;rintro e w1 ⟨A1,c1,rfl,i,_,⟨_,ac⟩,hb⟩;have hB:=zc b1 hb;have g1:=zq hb g1;have hk:=zg hb b4;have I:w.heap.size+3<=w1.heap.size:=qD b5 hb.size;clear hb b1 b4 b5 ac;go_wp2_with fail;refine(ui x _ _ _ _).mono ?_;rintro e w2 ⟨rfl,hb⟩;have hB:=zc hB hb;have g1:=zq hb g1;have hk:=zg hb hk;have i:=(i.below hb).more hb.size;have I:w.heap.size+3<=w2.heap.size:=qD I hb.size;have Y:=λo=>wi o g1;clear hb;go_wp2_with fail;have hR:zJ (w2.alloc (.cells Z 125)) 125 w2.heap.size N N (List.replicate N 0):=by
  have h:=zJ.made w2 125 N (by unfold maxLen;omega);rw [HZ.o] at h;exact h
 obtain⟨gs,G⟩:∃g,w2.heap.size=g:=⟨_,rfl⟩;have hB:=xx (.cells Z 125) hB;have g1:=wi (.cells Z 125) g1;have hk:=hk.alloc (.cells Z 125);have i:=(i.alloc (qX _) (.cells Z 125)).more (B':=gs) za;rw [G] at hR I;generalize w2.alloc (.cells Z 125)=W3 at*;rw [G];clear G ag Y;refine(ui x _ _ _ _).mono ?_;rintro e w4 ⟨rfl,hb⟩;have hB:=zc hB hb;have g1:=zq hb g1;have hk:=zg hb hk;have i:=i.below (hb.mono (QK hR.lt));have hR:=hR.keep hb;have hI:=zb (ni.start x y m N);clear hb;go_wp2_with fail
 go_loopg [22] (n+1) (λg ix wr=>∃(k:Nat) (L:List Nat),k<=n/\n<g+k/\ix=.int .i64 k/\ni x y k m N L/\zJ wr 125 gs N N L/\Below w.heap.size w wr/\wr.cell? ⟨w.heap.size,0,none⟩=some (.slice A n c)/\zh wr (w.heap.size+1+1) 50 #[.slice none 0 0]/\zL wr gs 1 A1 m (zt .u64 (dg 18446744073709551616 y)))
 case atStart=>exact⟨0,_,QQ _,za,rfl,hI.o,hR,hB,g1,hk,i⟩
 case round=>
  clear hB g1 hk i hR hI;obtain⟨k,L0,hkn,hg,rfl,hM,hR,hB,g1,hk,i⟩:=hrel;obtain⟨wo,ah⟩:∃wo,wo=wr:=⟨_,rfl⟩;subst ah;by_cases hlt:k<n
  ·have WX:=zj w (λw' h=>jp x A n c k w' (HA.o w' h));have ha:=wX x k;have F:=zb (ub.start y (wd x k) k hM.len hM.dgs);have E:=zb (λL c (h:ub L0 y (wd x k) k m N L c)=>ni.step hM h (by have:=U.o;omega) (by have:=HN.o;omega));obtain⟨a,P⟩:∃a,wd x k=a:=⟨_,rfl⟩;rw [P] at WX ha F E;clear P hM;go_wp2_with fail;refine(WX.o _ hB).mono ?_;rintro e w5 ⟨rfl,hb⟩;have hB:=zc hB hb;have g1:=zq hb g1;have hk:=zg hb hk;have i:=i.below (hb.mono (QK hR.lt));have hR:=hR.keep hb;clear hb;go_wp2_with fail
   go_loopg [9,30] (m+1) (λg cy jx wr=>∃(j cc:Nat) (L:List Nat),j<=m/\m<g+j/\jx=.int .i64 j/\cy=.int .u64 cc/\ub L0 y a k j N L cc/\zJ wr 125 gs N N L/\Below w.heap.size w wr/\wr.cell? ⟨w.heap.size,0,none⟩=some (.slice A n c)/\zh wr (w.heap.size+1+1) 50 #[.slice none 0 0]/\zL wr gs 1 A1 m (zt .u64 (dg 18446744073709551616 y)))
   case atStart=>exact⟨0,0,L0,QQ _,za,rfl,rfl,F.o,hR,hB,g1,hk,i⟩
   case round=>
    clear hB g1 hk i hR F;obtain⟨j,cc,L,hjm,hg2,rfl,rfl,hI,hR,hB,g1,hk,i⟩:=hrel;by_cases hjl:j<m
    ·have t:=HN.o;obtain⟨ad,rfl,hadb,h1⟩:=wQ i (k:=j) hjl;rw [nD] at h1;have hp:=hI.dgs.getD zf (k+j);have h2:=hR.cell (k+j) za;have h3:=hR.frozen (k+j);have Q:=wX y j;have ab:=hI.carry;have B:=hI.step (s:=wd y j*a+L.getD (k+j) 0+cc) ha za rfl;obtain⟨b,R⟩:∃b,wd y j=b:=⟨_,rfl⟩;obtain⟨p,V⟩:∃b,L.getD (k+j) 0=b:=⟨_,rfl⟩;rw [R] at h1 Q B;rw [V] at h2 hp B;have J:=zb (λw'=>VU b a p cc Q ha hp ab w');obtain⟨s1,e1⟩:∃s1,(b*a+p+cc)%18446744073709551616=s1:=⟨_,rfl⟩;obtain⟨s2,e2⟩:∃s2,(b*a+p+cc) / 18446744073709551616=s2:=⟨_,rfl⟩;rw [e1,e2] at J B;have M:=zb B;have z:=zb (hR.set_ (k+j) s1 za);obtain⟨q,hq⟩:∃q,k+j=q:=⟨_,rfl⟩;rw [hq] at h2 h3 M z;have i1:(0:Int)<=(k:Int)+(j:Int):=za;have i2:(k:Int)+(j:Int)<(N:Int):=za;have i3:((k:Int)+(j:Int)).toNat=q:=za;have C:=λu=>zB (p:=⟨gs,q,none⟩) u (by show w.heap.size<=gs;omega) hB;have gS:=λu=>zW (p:=⟨w.heap.size,0,none⟩) (q:=⟨gs,q,none⟩) u (by show w.heap.size≠gs;omega) g1;have kS:=λu=>hk.far (p:=⟨gs,q,none⟩) (by show w.heap.size+1+1≠gs;omega) u;clear B R V e1 e2 hI hq t;go_wp2_with fail;refine(J.o _).mono ?_;rintro e w' ⟨rfl,rfl⟩;go_wp2;go_roundg (m - j)
     case measure=>omega
     case rel=>exact⟨j+1,s2,_,za,za,by go_num,rfl,M.o,z.o,C _,gS _,kS _,i.setCell (qX _) _⟩
    ·have S:j=m:=za;subst S;have t:=HN.o;have h3:=hR.frozen (k+j);have K:=zb (E.o L cc hI);have z:=zb (hR.set_ (k+j) cc za);obtain⟨u,hu⟩:∃u,wr.cell? ⟨gs,k+j,none⟩=some u:=⟨_,hR.cell (k+j) za⟩;obtain⟨q,hq⟩:∃q,k+j=q:=⟨_,rfl⟩;rw [hq] at h3 K z hu;have i1:(0:Int)<=(k:Int)+(j:Int):=za;have i2:(k:Int)+(j:Int)<(N:Int):=za;have i3:((k:Int)+(j:Int)).toNat=q:=za;have C:=λu=>zB (p:=⟨gs,q,none⟩) u (by show w.heap.size<=gs;omega) hB;have gS:=λu=>zW (p:=⟨w.heap.size,0,none⟩) (q:=⟨gs,q,none⟩) u (by show w.heap.size≠gs;omega) g1;have kS:=λu=>hk.far (p:=⟨gs,q,none⟩) (by show w.heap.size+1+1≠gs;omega) u;clear hI hq t E;go_wp2;go_roundg (n - k)
     case measure=>omega
     case rel=>exact⟨k+1,_,za,za,by go_num,K.o,z.o,C _,gS _,kS _,i.setCell (qX _) _⟩
  ·have T:k=n:=za;subst T;have t:=HN.o;have e:=ni.done (L:=L0) (by rw [t];exact hM) (by have:=af.o;omega);have O:=tK (some ⟨gs,0,none⟩) N N L0 wo hR.reads hM.dgs (qX _) za za;rw [e] at O;have HO:=zb O;clear O e t hM;go_wp2_with fail;refine HO.o.mono ?_;rintro e w' ⟨A2,n2,c2,rfl,hw,hb,hf⟩;have H:=zg hb hk;have aa:w'.cell? ⟨w.heap.size+1+1,0,none⟩=some (.slice none 0 0):=H.cell 0;have hf1:=H.frozen 0;have hsz:=hR.lt;have HG : zd (wh w (x * y) (.returned (.agg #[.slice A2 n2 c2])) (w'.setCell ⟨w.heap.size + 1 + 1,0,none⟩ (.slice A2 n2 c2))) :=
    Zj hw (zc hB hb) (by show _<=_;simp;omega) (λad e=>by have:=hf ad e;show ad.block≠_;simp;omega) (λad e=>by have:=hf ad e;omega) _
   clear hb hw hf H hsz hk hB g1 i hR;go_wp2;refine bodyPost_ret (v:=.agg #[.slice A2 n2 c2]) (by simp [results,results113,go_sem,aa]) rfl ?_;exact HG.o
open Go Go.RowKit Go.Proofs.Tryz
set_option maxHeartbeats 16000000
set_option maxRecDepth 100000
open Go Go.RowKit Go.Proofs.Tryz
set_option maxHeartbeats 16000000
set_option maxRecDepth 100000
theorem mH (x:Nat):x<2^bitLen x:=by
 unfold bitLen
 split
 ·rename_i h;subst h;decide
 ·exact Nat.lt_log2_self
theorem ou (k j:Nat):k / 2^j=k / 2^(j+1)+k / 2^(j+1)+k / 2^j%2:=by
 rw [qO,<-xB];omega
open Go Go.RowKit Go.Proofs.Tryz
set_option maxHeartbeats 16000000
set_option maxRecDepth 100000
theorem SJ (x k:Nat)(A:ze)(n c:Nat)(w:World)(hA:zo w x A n c)(hn:n<=549755813888)(hk:k<=65536):
  Calls prog 167 #[.agg #[.slice A n c],.int .i64 k] w (fs w (2^k*x) true):=by
 obtain⟨i0,av,a3,a4,a5⟩:=info_parts o6;have aa:=hA.len;have ak:=zb aa;have HA:=zj w (λw' hb=>hA.below hb);have HK:=my k;obtain⟨q,hq⟩:∃q,k / 64=q:=⟨_,rfl⟩;obtain⟨r,hr⟩:∃r,k%64=r:=⟨_,rfl⟩;rw [hq,hr] at HK;have aj:=zb HK;have J:r<64:=za;have hq1:q<=1024:=za;obtain⟨N,hN⟩:∃N,q+n+1=N:=⟨_,rfl⟩;have hN0:N<=549755814913:=za;have ap:(q:Int)+(n:Int)+1=(N:Int):=za;have aq:IntKind.i64.wrap (N:Int)=(N:Int):=QS _ za;have M:=zb hN;obtain⟨Z,hZ⟩:∃Z,madeCells (Value.cells (.int .u64 0)) (N*i0.size)=Z:=⟨_,rfl⟩;have HZ:zd (Z.toList=zt .u64 (List.replicate N 0)):=by
  show _=_;rw [<-hZ,a4,xS];exact(toList_madeCells_one _ _).trans (by simp [zt])
 have az:∀W:World,(Instr.makeSlice 48 (.int .i64 (N:Int)) (.int .i64 (N:Int))).run prog W=.ok (.slice (some ⟨W.heap.size,0,none⟩) N N) (W.alloc (.cells Z 125)):=λW=>by
  rw [<-hZ];exact sV _ _ i0 _ underlying48 av a3 _ _ N N (qX _) (by rw [a5];omega) za W
 have hkd:decide ((k:Int)<0)=false:=zG;have hkd2:decide ((65536:Int)<(k:Int))=false:=by simp;omega
 have hkd3:decide ((k:Int)>65536)=false:=by simp;omega
 have ab:(k:Int) / 64=(q:Int):=za;have ac:(k:Int)%64=(r:Int):=za;have a0:(k:Int).tdiv 64=(q:Int):=by rw [Int.tdiv_eq_ediv_of_nonneg za];exact ab
 have a1:(k:Int).tmod 64=(r:Int):=by rw [xC za];exact ac
 clear hZ hA aa hN hq hr HK;go_enter func167,ntmps167;go_wp2_with fail;generalize hW:(w.alloc (.cells #[.slice A n c] 50)).alloc (.cells #[.slice none 0 0] 50)=W0;obtain⟨b1,b2,b4,b5⟩:=z8 w 50 50 #[.slice A n c] #[.slice none 0 0];rw [hW] at b1 b2 b4 b5;have g1:W0.cell? ⟨w.heap.size,0,none⟩=some (.slice A n c):=b2.cell 0;clear hW b2;refine(ui x _ _ _ _).mono ?_;rintro e w2 ⟨rfl,hb⟩;have hB:=zc b1 hb;have H:=zg hb b4;have g1:=zq hb g1;have a2:=hb.size;have hgs:w.heap.size+2<=w2.heap.size:=za;clear hb a2 b1 b4 b5;have ga:∀o,(w2.alloc o).cell? ⟨w.heap.size,0,none⟩=some (.slice A n c):=λo=>wi o g1;go_wp2_with fail;clear ga;have S:=zh.new w2 125 Z;have hB:=xx (.cells Z 125) hB;have H:=H.alloc (.cells Z 125);have g1:=wi (.cells Z 125) g1;generalize w2.alloc (.cells Z 125)=W1 at*;generalize w2.heap.size=gs at*;clear az ap aq ab ac a0 a1;have am:0<2^r:=xZ r
 go_loopg [9,10,31] (n + 1) (fun g _ _ ix wr => ∃ (i cc : Nat) (cs : Array Value) (out : List Nat),i ≤ n ∧ n < g + i ∧ ix = .int .i64 i ∧ zd (kz x (2 ^ r) i out cc) ∧ zd (cs.toList = zt .u64 (List.replicate q 0 ++ out) ++ .int .u64 cc :: zt .u64 (List.replicate (n - i) 0)) ∧ zh wr gs 125 cs ∧
   Below w.heap.size w wr/\wr.cell? ⟨w.heap.size,0,none⟩=some (.slice A n c)/\zh wr (w.heap.size+1) 50 #[.slice none 0 0])
 case atStart=>
  refine⟨0,0,Z,[],za,za,rfl,kz.start x _ am,?_,S,hB,g1,H⟩;show Z.toList=zt .u64 (List.replicate q 0++[])++Value.int .u64 0::zt .u64 (List.replicate (n - 0) 0);rw [HZ.o,List.append_nil,Nat.sub_zero,<-TQ,<-sE,List.replicate_append_replicate,show q+(n+1)=N from by have:=M.o;omega]
 case round=>
  clear hB g1 H S;obtain⟨i,cc,cs,out,hi,hg,rfl,t,F,y,hB,g1,B⟩:=hrel;have I:=t.o.len;have u:(zt .u64 (List.replicate q 0++out)).length=q+i:=by rw [wL,qT,yM,I]
  by_cases hlt:i<n
  ·have R:=(HA.o wr hB).1;obtain⟨ad,rfl,U,hx⟩:=wQ R hlt;rw [nD] at hx;have ar:=wX x i;have K:=zb (t.o.step (s:=wd x i*2^r+cc) rfl);have V:=t.o.carry;obtain⟨a,ha⟩:∃a,wd x i=a:=⟨_,rfl⟩;rw [ha] at hx ar K;have O:=zb (ot (a:=a) J V);have P:=zb (Np (a:=a) J V);obtain⟨m,hm⟩:∃m,n - i=m+1:=⟨n - i - 1,za⟩;have j:=F.o;rw [hm,TQ] at j;have af:cs.size=q+i+(m+2):=by
    have h:=congrArg List.length j;rw [XE] at h;rw [h,qT,u,xO,xO,wL,yM]
   have ag:cs[q+i]?=some (.int .u64 cc):=by
    rw [<-QR,j,QJ za,u,XG];rfl
   have ah:cs[q+i+1]?=some (.int .u64 0):=by
    rw [<-QR,j,QJ za,u,show q+i+1 - (q+i)=1 from by omega];rfl
   have q1:wr.cell? ⟨gs,q+i,none⟩=some (.int .u64 cc):=(y.cell _).trans ag;have q2:=y.frozen (q+i);have ai:=zb j;have al:=zb u;have HM:=zb hm;have hNn:q+i+2<=N:=by have:=M.o;omega
   obtain⟨i1,i2,i3,i4,i5,i6,i7⟩:(0:Int)<=(i:Int)/\(i:Int)<(n:Int)/\(0:Int)<=(q:Int)+(i:Int)/\(q:Int)+(i:Int)<(N:Int)/\(0:Int)<=(q:Int)+(i:Int)+1/\(q:Int)+(i:Int)+1<(N:Int)/\q+i+1<N:=za;obtain⟨j1,j2,j3,j4,j5⟩:IntKind.i64.wrap ((q:Int)+(i:Int))=(q:Int)+(i:Int)/\IntKind.i64.wrap ((q:Int)+(i:Int)+1)=(q:Int)+(i:Int)+1/\IntKind.i64.wrap (64 - (r:Int))=64 - (r:Int)/\((q:Int)+(i:Int)).toNat=q+i/\((q:Int)+(i:Int)+1).toNat=q+i+1:=⟨QS _ za,QS _ za,QS _ za,za,za⟩;clear ha t F R j u hm af ag U I;go_wp2_with fail;go_region;rw [O.o];obtain⟨s1,e1⟩:∃s1,(a*2^r+cc)%18446744073709551616=s1:=⟨_,rfl⟩;obtain⟨s2,e2⟩:∃s2,(a*2^r+cc) / 18446744073709551616=s2:=⟨_,rfl⟩;rw [e1,e2] at K;rw [e2] at P;rw [e1];clear O e1 e2 q1 q2;have z:=(y.set_ (q+i) (.int .u64 (s1:Int))).drew;have ax:=(B.far (p:=⟨gs,q+i,none⟩) (by show w.heap.size+1≠gs;omega) (.int .u64 (s1:Int))).drew;have an:=(zB (p:=⟨gs,q+i,none⟩) (.int .u64 (s1:Int)) (by show w.heap.size<=gs;omega) hB).drew;have g2:((wr.setCell ⟨gs,q+i,none⟩ (.int .u64 (s1:Int))).drew).cell? ⟨w.heap.size,0,none⟩=some (.slice (some ad) n c):=zW _ (by show w.heap.size≠gs;omega) g1;generalize (wr.setCell ⟨gs,q+i,none⟩ (.int .u64 (s1:Int))).drew=w3 at*;have q1:w3.cell? ⟨gs,q+i+1,none⟩=some (.int .u64 0):=(z.cell _).trans (by rw [qK za];exact ah);have q2:=z.frozen (q+i+1);have hv2:=P.o;clear ah y B hB g1 hx;go_wp2_with fail;have X:=z.set_ (q+i+1) (.int .u64 (s2:Int));have ay:=ax.far (p:=⟨gs,q+i+1,none⟩) (by show w.heap.size+1≠gs;omega) (.int .u64 (s2:Int));have ao:=zB (p:=⟨gs,q+i+1,none⟩) (.int .u64 (s2:Int)) (by show w.heap.size<=gs;omega) an;have g5:=zW (q:=⟨gs,q+i+1,none⟩) (.int .u64 (s2:Int)) (by show w.heap.size≠gs;omega) g2;go_roundg (n - i)
   case measure=>omega
   case rel=>
    refine⟨i+1,s2,_,_,za,za,by go_num,K.o,?_,X,ao,g5,ay⟩;show _=_;rw [QL,QL,ai.o,lB al.o,<-xV,dR,show n - (i+1)=m from by have:=HM.o;omega,xV];rfl
  ·have aw:i=n:=za;subst aw;have j:=F.o;rw [XG] at j;have e:=t.o.done (q:=q) (by have:=ak.o;omega);rw [aj.o] at e;have D:cs.toList=zt .u64 (List.replicate q 0++out++[cc]):=by rw [j,dR];rfl
   have C:(List.replicate q 0++out++[cc]).length=N:=by
    have:=M.o;simp [I];omega
   have E:cs.size=N:=by
    have h:=congrArg List.length D;rw [XE,wL,C] at h;exact h
   have Y:zH 18446744073709551616 (List.replicate q 0++out++[cc]):=by
    have h:=t.o.carry;have h2:2^r<=2^63:=qG zf za;exact((zH.zeros zf q).append t.o.dgs).append (by intro d hd;simp at hd;subst hd;omega)
   have T:=cG (some ⟨gs,0,none⟩) N N wr.heap.size _ wr (iF y E (by rw [<-E,<-XE,List.take_length];exact D) C) Y (qX _) za za;rw [e] at T;have HT:=zb T;have au:wr.cell? ⟨w.heap.size+1,0,none⟩=some (.slice none 0 0):=B.cell 0;have hf1:=B.frozen 0;clear T y j D C E Y t F e B g1 I u;go_wp2_with fail;refine HT.o.mono ?_;rintro e w2 ⟨A1,c1,rfl,ae,h1,h2,Q,rfl⟩;have G:=aX hB (p:=w.heap.size+1) (gs:=gs) za za ae h1 h2 Q za (.slice A1 (dg 18446744073709551616 (2^k*x)).length c1);have HG:zd (fs w (2^k*x) true (.returned (.tuple #[.agg #[.slice A1 (dg 18446744073709551616 (2^k*x)).length c1],.bool true])) (wr.setCell ⟨w.heap.size+1,0,none⟩ (.slice A1 (dg 18446744073709551616 (2^k*x)).length c1))):=⟨_,_,_,rfl,G.2.1,G.1,G.2.2⟩;clear G ae h1 h2 Q;obtain⟨L,hL⟩:∃L,(dg 18446744073709551616 (2^k*x)).length=L:=⟨_,rfl⟩;rw [hL] at HG⊢;clear hL;go_wp2;refine bodyPost_ret (v:=.tuple #[.agg #[.slice A1 L c1],.bool true]) (by simp [results,results167,go_sem,au]) rfl ?_;exact HG.o
open Go Go.RowKit Go.Proofs.Tryz
set_option maxHeartbeats 16000000
set_option maxRecDepth 100000
theorem PJ (w:World):zo w 0 none 0 0:=⟨zL.none_,qX _,za⟩
theorem Q9 (x k:Nat)(A:ze)(n c:Nat)(w:World)(hA:zo w x A n c)(hn:n<=549755813888)(hk:bitLen x<=k):
  Calls prog 170 #[.agg #[.slice A n c],.int .i64 k] w (wh w 0):=by
 have HC:=zj w (λw' hb=>Xf x A n c w' (hA.below hb) za);obtain⟨z,hz⟩:∃z,bitLen x=z:=⟨_,rfl⟩;rw [hz] at HC hk;have hd:decide ((z:Int)<=(k:Int))=true:=by simpa using hk
 clear hz hA;go_enter func170,ntmps170;go_wp2_with fail;generalize hW:(w.alloc (.cells #[.slice A n c] 50)).alloc (.cells #[.slice none 0 0] 50)=W0;obtain⟨b1,b2,b4,b5⟩:=z8 w 50 50 #[.slice A n c] #[.slice none 0 0];rw [hW] at b1 b2 b4 b5;clear hW b2;refine(HC.o _ b1).mono ?_;rintro e w1 ⟨rfl,hb⟩;have hB:=zc b1 hb;have hk:=zg hb b4;have a:w1.cell? ⟨w.heap.size+1,0,none⟩=some (.slice none 0 0):=hk.cell 0;have hf1:=hk.frozen 0;have HG:zd (wh w 0 (.returned (.agg #[.slice none 0 0])) (w1.setCell ⟨w.heap.size+1,0,none⟩ (.slice none 0 0))):=⟨_,_,_,rfl,PJ _,zB _ (by show _<=w.heap.size+1;omega) hB,sH.none_ _⟩;clear hB hk hb b1 b4;go_wp2;refine bodyPost_ret (v:=.agg #[.slice none 0 0]) (by simp [results,results170,go_sem,a]) rfl ?_;exact HG.o
theorem mW (x k:Nat)(A:ze)(n c:Nat)(w:World)(hA:zo w x A n c)(hn:n<=549755813888)(hk:k<bitLen x):
  Calls prog 170 #[.agg #[.slice A n c],.int .i64 k] w (wh w (x / 2^k)):=by
 obtain⟨i0,ab,ak,al,am⟩:=info_parts o6;have t:=hA.len;have X:bitLen x<=64*n:=iE _ _ (by
  have h:=yv (b:=18446744073709551616) zf x;rw [t,show(18446744073709551616:Nat)=2^64 from rfl,<-yL] at h;exact h)
 have HC:=(λw' (hb:Below w.heap.size w w')=>Xf x A n c w' (hA.below hb) za);have HA:=zj w (λw' hb=>hA.below hb);obtain⟨q,hq⟩:∃q,k / 64=q:=⟨_,rfl⟩;obtain⟨r,hr⟩:∃r,k%64=r:=⟨_,rfl⟩;have M:r<64:=za;have hqn:q<n:=za;obtain⟨z,hz⟩:∃z,bitLen x=z:=⟨_,rfl⟩;rw [hz] at HC hk X;have HC:=zb HC;have hd:decide ((z:Int)<=(k:Int))=false:=by simp;omega
 have hzk:z<=35184372088832:=za;have W:∀i,wd (x / 2^k) i=wd x (q+i) / 2^r+2^(64 - r)*(wd x (q+i+1)%2^r):=λi=>by rw [oN,hq,hr]
 have HW:=zb W;obtain⟨N,hN⟩:∃N,n - q=N:=⟨_,rfl⟩;have C:0<N/\N<=n:=za;obtain⟨C,hNn⟩:=C;have S:(n:Int) - (q:Int)=(N:Int):=za;have U:IntKind.i64.wrap (N:Int)=(N:Int):=QS _ za;obtain⟨Z,hZ⟩:∃Z,madeCells (Value.cells (.int .u64 0)) (N*i0.size)=Z:=⟨_,rfl⟩;have HZ:zd (Z.size=N):=by show _=_;rw [<-hZ,size_madeCells,al,xS]
 have af:∀W:World,(Instr.makeSlice 48 (.int .i64 (N:Int)) (.int .i64 (N:Int))).run prog W=.ok (.slice (some ⟨W.heap.size,0,none⟩) N N) (W.alloc (.cells Z 125)):=λW=>by
  rw [<-hZ];exact sV _ _ i0 _ underlying48 ab ak _ _ N N (qX _) (by rw [am];omega) za W
 have HL:zd ((dg 18446744073709551616 (x / 2^k)).length<=N):=by
  refine wP zf _ _ ?_;have h:=yv (b:=18446744073709551616) zf x;rw [t] at h;refine(QM (xZ k)).2 ?_;rw [<-my k,hq,hr,<-qH,<-xU,show N+q=n from by omega];exact qJ h (Nat.le_mul_of_pos_right _ (xZ r))
 have hkd:decide ((k:Int)<0)=false:=zG;have I:(k:Int) / 64=(q:Int):=za;have J:(k:Int)%64=(r:Int):=za;have ag:(k:Int).tdiv 64=(q:Int):=by rw [Int.tdiv_eq_ediv_of_nonneg za];exact I
 have ah:(k:Int).tmod 64=(r:Int):=by rw [xC za];exact J
 clear hZ hA t hN hq hr hz W;go_enter func170,ntmps170;go_wp2_with fail;generalize hW:(w.alloc (.cells #[.slice A n c] 50)).alloc (.cells #[.slice none 0 0] 50)=W0;obtain⟨b1,b2,b4,b5⟩:=z8 w 50 50 #[.slice A n c] #[.slice none 0 0];rw [hW] at b1 b2 b4 b5;have g1:W0.cell? ⟨w.heap.size,0,none⟩=some (.slice A n c):=b2.cell 0;clear hW b2;refine(HC.o _ b1).mono ?_;rintro e w1 ⟨rfl,hb⟩;have hB:=zc b1 hb;have d:=zg hb b4;have g3:=zq hb g1;have ai:=hb.size;clear hb g1 b1 b4;go_wp2_with fail;refine(ui x _ _ _ _).mono ?_;rintro e w2 ⟨rfl,hb⟩;have hB:=zc hB hb;have d:=zg hb d;have g1:=zq hb g3;have aj:=hb.size;have hgs:w.heap.size+2<=w2.heap.size:=za;clear hb g3 ai aj b5;go_wp2_with fail;have D:=zh.new w2 125 Z;have hB:=xx (.cells Z 125) hB;have d:=d.alloc (.cells Z 125);have g1:=wi (.cells Z 125) g1;generalize w2.alloc (.cells Z 125)=W1 at*;generalize w2.heap.size=gs at*;clear af S U I J ag ah
 rename_i hh1 _ _ hh2
 clear hh1
 go_loopg [8,29] (N + 1) (fun g _ ix wr => ∃ (i : Nat) (cs : Array Value),i ≤ N ∧ N < g + i ∧ ix = .int .i64 i ∧ cs.size = N ∧ cs.toList.take i = zt .u64 (uk (x / 2 ^ k) i) ∧ zh wr gs 125 cs ∧
   Below w.heap.size w wr/\wr.cell? ⟨w.heap.size,0,none⟩=some (.slice A n c)/\zh wr (w.heap.size+1) 50 #[.slice none 0 0])
 case atStart=>exact⟨0,Z,za,za,rfl,HZ.o,rfl,D,hB,g1,d⟩
 case round=>
  clear hB g1 d D;obtain⟨i,cs,hi,hg,rfl,hsz,o,m,hB,g1,j⟩:=hrel;by_cases hlt:i<N
  ·have E:=wX x (q+i);have V:=wX x (q+i+1);have WX:=(λw' (h:Below w.heap.size w w')=>jp x A n c (q+i) w' (HA.o w' h));have WY:=(λw' (h:Below w.heap.size w w')=>jp x A n c (q+i+1) w' (HA.o w' h));rw [Int.natCast_add] at WX;rw [show((q+i+1:Nat):Int)=(q:Int)+(i:Int)+1 from by omega] at WY;have s:=zb (HW.o i);obtain⟨a,ha⟩:∃a,wd x (q+i)=a:=⟨_,rfl⟩;obtain⟨b,hb⟩:∃a,wd x (q+i+1)=a:=⟨_,rfl⟩;rw [ha] at WX E s;rw [hb] at WY V s;have P:=zb WX;have Q:=zb WY;have y:=zb hsz;have O:=zb o;obtain⟨u,hu⟩:∃u,cs[i]?=some u:=⟨cs[i]' za,QU za⟩;have HU:=zb hu;clear WX WY ha hb o hu hsz;have i1:(0:Int)<=(i:Int):=za;have i2:(i:Int)<(N:Int):=za;obtain⟨j1,j2,j3⟩:IntKind.i64.wrap ((q:Int)+(i:Int))=(q:Int)+(i:Int)/\IntKind.i64.wrap ((q:Int)+(i:Int)+1)=(q:Int)+(i:Int)+1/\IntKind.i64.wrap (64 - (r:Int))=64 - (r:Int):=⟨QS _ za,QS _ za,QS _ za⟩;go_wp2_with fail;have F:=hB.drew;have H:=j.drew;have Y:=m.drew
   go_region_held3 (fun w' => Below w.heap.size w w' ∧ w'.cell? ⟨w.heap.size,0,none⟩ = some (.slice A n c) ∧ zh w' (w.heap.size + 1) 50 #[.slice none 0 0])
    (first|(exact⟨F,g1,H⟩)|(go_split_ands;(repeat' apply And.intro);all_goals (first|exact zl|exact zc zl hb|exact zq hb zl|exact zg hb zl|exact zB _ (by simp;omega) zl|exact zW _ (by simp;omega) zl|exact zh.far zl (by simp;omega) _)))
    (first
      |(go_at_call 145;with_reducible refine(P.o _ (by first|exact zl|exact XO zl)).mono ?_;rintro e w' ⟨rfl,hb⟩;have d:zh w' gs 125 cs:=zg hb zl;have q1:=(d.cell i).trans HU.o;have q2:=d.frozen i)
      |(go_at_call 145;with_reducible refine(Q.o _ (by first|exact zl|exact XO zl)).mono ?_;rintro e w' ⟨rfl,hb⟩;have d:zh w' gs 125 cs:=zg hb zl;have q1:=(d.cell i).trans HU.o;have q2:=d.frozen i))
   rename_i hH
   obtain⟨R,g3,ad⟩:=hH;have ae:=d.set_ i (.int .u64 (bits .or .u64 ((a:Int) / 2^r) (IntKind.u64.wrap ((b:Int)*2^(64 - r)))));have HV:zd ((cs.setIfInBounds i (.int .u64 (bits .or .u64 ((a:Int) / 2^r) (IntKind.u64.wrap ((b:Int)*2^(64 - r)))))).toList.take (i+1)=zt .u64 (uk (x / 2^k) (i+1))):=by
    show _=_;rw [Xx _ _ _ (by have:=y.o;omega),O.o,Yf,dR,s.o,TI E M]
   clear hb d q1 q2 F H Y hB g1 j m j1 j2 j3;go_wp2;go_roundg (N - i)
   case measure=>omega
   case rel=>exact⟨i+1,_,za,za,by go_num,by simpa using y.o,HV.o,ae,R,g3,ad⟩
  ·have ac:i=N:=za;subst ac;have e:=VH HL.o;have T:=cG (some ⟨gs,0,none⟩) i i wr.heap.size (uk (x / 2^k) i) wr (iF m hsz o (jc _ _)) (VI _ _) (qX _) za za;rw [e] at T;have HT:=zb T;have aa:wr.cell? ⟨w.heap.size+1,0,none⟩=some (.slice none 0 0):=j.cell 0;have hf1:=j.frozen 0;clear T m hsz o e j g1;go_wp2_with fail;refine HT.o.mono ?_;rintro e w2 ⟨A1,c1,rfl,K,h1,h2,B,rfl⟩;have G:=aX hB (p:=w.heap.size+1) (gs:=gs) za za K h1 h2 B za (.slice A1 (dg 18446744073709551616 (x / 2^k)).length c1);have HG:zd (wh w (x / 2^k) (.returned (.agg #[.slice A1 (dg 18446744073709551616 (x / 2^k)).length c1])) (wr.setCell ⟨w.heap.size+1,0,none⟩ (.slice A1 (dg 18446744073709551616 (x / 2^k)).length c1))):=⟨_,_,_,rfl,G.2.1,G.1,G.2.2⟩;clear G K h1 h2 B;obtain⟨L,hL⟩:∃L,(dg 18446744073709551616 (x / 2^k)).length=L:=⟨_,rfl⟩;rw [hL] at HG⊢;clear hL;go_wp2;refine bodyPost_ret (v:=.agg #[.slice A1 L c1]) (by simp [results,results170,go_sem,aa]) rfl ?_;exact HG.o
open Go Go.RowKit Go.Proofs.Tryz
set_option maxHeartbeats 16000000
set_option maxRecDepth 100000
theorem OE (x:Nat):x<2^bitLen x:=by
 unfold bitLen
 split
 ·rename_i h;subst h;decide
 ·exact Nat.lt_log2_self
open Go Go.RowKit Go.Proofs.Tryz
set_option maxHeartbeats 16000000
theorem VG (x k:Nat)(A:ze)(n c:Nat)(w:World)(hA:zo w x A n c)(hn:n<=549755813888):
  Calls prog 170 #[.agg #[.slice A n c],.int .i64 k] w (wh w (x / 2^k)):=by
 by_cases h:bitLen x<=k
 ·rw [QB (qJ (OE x) (qG zf h))];exact Q9 x k A n c w hA hn h
 ·exact mW x k A n c w hA hn za
theorem Sz.shl' {K x k M:Nat}(h:Sz K x)(hk:k<=64*M):Sz (K+M) (2^k*x):=by
 unfold Sz at*;have h1:2^k<=18446744073709551616^M:=by
  rw [show(18446744073709551616:Nat)=2^64 from rfl,<-yL];exact qG zf hk
 rw [xU,qB (18446744073709551616^K)];exact QO (qE x h1) (Nat.mul_lt_mul_of_pos_left h (XB zf))
