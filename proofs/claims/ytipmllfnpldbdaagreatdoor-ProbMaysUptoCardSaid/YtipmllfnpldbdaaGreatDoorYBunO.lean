/- What this claim leans on. -/
import Derived.Test.YtipmllfnpldbdaaGreatDoorYBunM
import Derived.IntWalk
set_option linter.unusedVariables false
set_option linter.unusedSimpArgs false
namespace Go.Proofs.YtipmllfnpldbdaaGreatDoor
open Go Go.RowKit Go.Proofs.Tryz
set_option maxHeartbeats 16000000
set_option maxRecDepth 100000
variable {xs:List Nat}{vs:List Value}{a b c d g m x:Nat}{t:TypeId}{v v':Value}{w w':World}{A B:zf}
theorem kK (x:Nat)(A:zf)(n c:Nat)(w:World)(h:zp w x A n c)(hn:n<=1099511627776):
  Calls prog 90 #[.agg #[.slice A n c]] w (lU w n (zw .u64 (dg 18446744073709551616 x))):=by
 obtain⟨hr,h1,h2⟩:=h;have a:=hr.len_;have C:∀o,Calls prog 107 #[.slice A n c] (w.alloc o) (lU w n (zw .u64 (dg 18446744073709551616 x))):=λo=>by
  have i:=((hr.alloc (qX _) o).more (B':=(w.alloc o).heap.size) zD);rcases A with _|ad
  ·have d:n=0:=by
    rcases QS n with h|h
    ·exact h
    ·obtain⟨ad,e,_⟩:=hr.2 h;cases e
   subst d;have hl:zw .u64 (dg 18446744073709551616 x)=[]:=by rw [qM a];rfl
   rw [hl];exact(ZT c _).mono λe w' ⟨he,hw⟩=>⟨_,he,XH _ _ _ _,by rw [<-hw];exact(qY _ w).alloc (qX _) o⟩
  ·refine(fP ad n c _ (w.alloc o) i hn).mono λe w' ⟨v,he,ho,hb⟩=>?_;refine⟨v,he,⟨ho.1,?_⟩,((qY _ w).alloc (qX _) o).trans (hb.mono zD)⟩;rcases ho.2 with h|⟨g,cap,cur,e1,e2,e3⟩
   ·exact .inl h
   ·exact .inr ⟨g,cap,cur,e1,qC zD e2,e3⟩
 obtain⟨L,hL⟩:∃L,zw .u64 (dg 18446744073709551616 x)=L:=⟨_,rfl⟩;rw [hL] at C⊢;have HC:=zd C;clear C hr a hL;go_enter func90,ntmps90;go_wp2_with fail;refine(HC.o _).mono ?_;intro e w1 hg;have G:=zd hg;obtain⟨v,rfl,_,_⟩:=hg;go_wp2;go_ret;exact G.o
def zy (w:World)(t:TypeId)(g cap n:Nat)(L:List Nat):Prop:=
 ∃cur,zi w g t cur/\n<=cap/\cap<=maxLen/\cur.size=cap/\L.length=n/\cur.toList.take n=zw .u64 L
section
variable {w w':World}{t:TypeId}{g cap n:Nat}{L:List Nat}
theorem zy.len (h:zy w t g cap n L):L.length=n:=by obtain⟨_,_,_,_,_,h,_⟩:=h;exact h
theorem zy.room (h:zy w t g cap n L):n<=cap/\cap<=maxLen:=by obtain⟨_,_,h,h2,_⟩:=h;exact⟨h,h2⟩
theorem zy.lt (h:zy w t g cap n L):g<w.heap.size:=by obtain⟨_,h,_⟩:=h;exact h.lt
theorem oD (k:IntKind)(l:List Nat)(i:Nat)(h:i<l.length):(zw k l)[i]?=some (.int k (l.getD i 0:Nat)):=by
 simp [zw,List.getD,qZ h]
theorem zy.cell (h:zy w t g cap n L)(k:Nat)(hk:k<n):w.cell? ⟨g,k,none⟩=some (.int .u64 (L.getD k 0:Nat)):=by
 obtain⟨cur,hb,h1,h2,h3,h4,h5⟩:=h;rw [hb.cell k,<-QP,<-oD .u64 L k za,<-h5,yV,if_pos hk]
theorem zy.frozen (h:zy w t g cap n L)(k:Nat):w.frozen? ⟨g,k,none⟩=false:=by
 obtain⟨cur,hb,_⟩:=h;exact hb.frozen k
theorem zy.set_ (h:zy w t g cap n L)(k d:Nat)(hk:k<n):zy (w.setCell ⟨g,k,none⟩ (.int .u64 (d:Int))) t g cap n (L.set k d):=by
 obtain⟨cur,hb,h1,h2,h3,h4,h5⟩:=h;refine⟨_,hb.set_ k _,h1,h2,by simpa using h3,by simpa using h4,?_⟩;rw [xV,YS,h5];unfold zw;rw [List.map_set]
theorem zy.below {B:Nat}(h:zy w t g cap n L)(hb:Below B w w')(hg:g<B):zy w' t g cap n L:=by
 obtain⟨a,h0,h1⟩:=h;exact⟨a,h0.below hb hg,h1⟩
theorem zy.keep (h:zy w t g cap n L)(hb:Below w.heap.size w w'):zy w' t g cap n L:=h.below hb h.lt
theorem zy.drew (h:zy w t g cap n L):zy w.drew t g cap n L:=h
theorem zy.alloc (h:zy w t g cap n L)(o:Obj):zy (w.alloc o) t g cap n L:=by
 obtain⟨a,h0,h1⟩:=h;exact⟨a,h0.alloc o,h1⟩
theorem zy.far (h:zy w t g cap n L){p:Addr}(hp:g≠p.block)(u:Value):zy (w.setCell p u) t g cap n L:=by
 obtain⟨a,h0,h1⟩:=h;exact⟨a,h0.far hp u,h1⟩
theorem zy.reads (h:zy w t g cap n L):zE w w.heap.size 1 (some ⟨g,0,none⟩) n (zw .u64 L):=by
 have hl:=h.lt;have hc:=h.cell;have hn:=h.len;refine⟨by rw [xt];omega,λ_=>⟨_,rfl,hl,λj u hu=>?_⟩⟩;have hj:j<L.length:=by
  rcases xC j L.length with hj|hj
  ·exact hj
  ·rw [xP (by rw [xt];exact hj)] at hu;cases hu
 have e:(⟨g,0,none⟩:Addr).add j=⟨g,j,none⟩:=by unfold Addr.add;split<;>simp_all
 rw [e,hc j za,<-oD .u64 L j hj,hu]
theorem zy.own (h:zy w t g cap n L){a:Nat}(hb:a<=g):w.ownsRow a t 1 (.slice (some ⟨g,0,none⟩) n cap) n (zw .u64 L):=by
 obtain⟨d,h0,h1,h2,h3,h4,h5⟩:=h;exact⟨by rw [xt];omega,.inr ⟨g,cap,d,rfl,hb,h0,h1,h2,za,by rw [xO];exact h5⟩⟩
theorem zy.made (w:World)(t:TypeId)(N:Nat)(hN:N<=maxLen):zy (w.alloc (.cells (madeCells (Value.cells (.int .u64 0)) N) t)) t w.heap.size N N (List.replicate N 0):=by
 refine⟨_,zi.new w t _,qX _,hN,size_madeCells _ _,zD,?_⟩;show(madeCells #[Value.int .u64 0] N).toList.take N=_;rw [toList_madeCells_one,qV zD];simp [zw]
theorem zy.of_own {j:Nat}{l:List Nat}(h:w.ownsRow j t 1 v n (zw .u64 l))(hn:0<n):∃g i,v=.slice (some ⟨g,0,none⟩) n i/\j<=g/\zy w t g i n l:=by
 obtain⟨h1,h2⟩:=h;rcases h2 with⟨_,h⟩|⟨g,i,cur,e,hb,hk,a,b,c,d⟩
 ·omega
 ·refine⟨g,i,e,hb,cur,hk,a,b,za,by rw [xt] at h1;omega,?_⟩;rw [xO] at d;exact d
end
theorem zE.of_grown_own {i n:Nat}{xs:List Value}(h:w.ownsRow i t 1 v n xs):∃A c,v=.slice A n c/\n<=c/\c<=maxLen/\zE w w.heap.size 1 A n xs:=by
 have h0:=h;obtain⟨h1,h2⟩:=h;rcases h2 with⟨e,hn⟩|⟨g,cap,cur,e,hb,hk,a,b,c,d⟩
 ·subst hn;exact⟨none,0,e,qX _,by unfold maxLen;omega,by subst e;exact zE.of_own h0⟩
 ·exact⟨_,_,e,a,b,by subst e;exact zE.of_own h0⟩
structure jz (w:World)(A:zf)(n c:Nat)(xs:List Nat):Prop where
 len:xs.length=n
 fits:n<=c
 most:c<=9223372036854775807
 num:∀i,i<n->∃(ad:Addr) (B:zf) (m d:Nat),A=some ad/\ad.block<w.heap.size/\w.cell? (ad.add i)=some (.slice B m d)/\zp w (xs.getD i 0) B m d
theorem jz.below {n:Nat}(h:jz w A n c xs)(hb:Below w.heap.size w w'):jz w' A n c xs:=
 ⟨h.len,h.fits,h.most,λi hi=>by
  obtain⟨ad,B,m,d,e,h1,h2,h3⟩:=h.num i hi;exact⟨ad,B,m,d,e,qJ h1 hb.size,zq hb h2,h3.below hb⟩⟩
theorem jf {n:Nat}(h:zp w x A n c){p:Addr}(hp:0<n->∀ad,A=some ad->ad.block≠p.block)(u:Value):zp (w.setCell p u) x A n c:=by
 by_cases hn:0<n
 ·exact oF h (hp hn) u
 ·exact⟨⟨h.1.1,λh0=>absurd h0 hn⟩,h.2⟩
theorem ee (h:zp w x B m d){row:Option Nat}(hg:w.grownBy w' row)(hr:0<m->∀ad,B=some ad->some ad.block≠row):zp w' x B m d:=by
 obtain⟨a,h1,h2⟩:=h;refine⟨⟨a.1,λhn=>?_⟩,h1,h2⟩;obtain⟨ad,e,hb,hc⟩:=a.2 hn;refine⟨ad,e,qJ hb hg.size,λj u hu=>?_⟩;exact(World.cell?_of_block (hg.block _ (by rw [y9];exact hb) (by rw [y9];exact hr hn ad e))).trans (hc j u hu)
theorem Y4 {n:Nat}{a:zf}(h:zp w x A n c)(hk:zi w g t #[.slice a b d]):0<n->∀ad,A=some ad->ad.block≠g:=λhn ad e hg=>by
 obtain⟨ad',e',_,hc⟩:=h.1.2 hn;rw [e] at e';injection e' with e';subst e';have hl:=h.len;have h0:=hc 0 (.int .u64 ((dg 18446744073709551616 x).getD 0 0:Nat)) (oD .u64 _ 0 za);have e0:ad.add 0=ad:=by unfold Addr.add;rw [if_pos rfl]
 rw [e0] at h0;obtain⟨bk,off,pr⟩:=ad;simp only at hg;subst hg;unfold zi at hk;cases pr with
 |none=>
   rw [show w.cell? ⟨bk,off,none⟩=#[Value.slice a b d][off]? from cell_of_row w bk off _ t (0,0) hk] at h0
   match off,h0 with
   |0,h0=>simp at h0
   |o+1,h0=>simp at h0
 |some q=>simp [World.cell?,hk] at h0
theorem ij {n:Nat}{a:zf}(h:zp w x A n c)(hk:zi w g t #[.slice a b d])(u:Value):zp (w.setCell ⟨g,0,none⟩ u) x A n c:=
 jf h (Y4 h hk) u
theorem yz {n:Nat}{a:zf}(h:zp w x A n c)(hk:yg w g (.slice a b d))(u:Value):zp (w.setCell ⟨g,0,none⟩ u) x A n c:=by
 obtain⟨t,hk⟩:=hk;exact ij h hk u
def kt (base:Nat)(v:Value)(B:zf)(m:Nat):Prop:=0<m->∀ad,B=some ad->base<=ad.block/\v.ownBlock≠some ad.block
theorem kt.grow (h:kt a v B m)(hx:zp w x B m d)(hg:w.grownBy w' v.ownBlock)(ha:v'.ownBlock=v.ownBlock\/v'.ownBlock=some w.heap.size):zp w' x B m d/\kt a v' B m:=by
 refine⟨ee hx hg (λhm ad e=>(h hm ad e).2.symm),λhm ad e=>⟨(h hm ad e).1,?_⟩⟩;rcases ha with ha|ha
 ·rw [ha];exact(h hm ad e).2
 ·rw [ha];obtain⟨ad',e',hlt,_⟩:=hx.1.2 hm;rw [e] at e';injection e' with e';subst e';intro hh;injection hh with hh;omega
structure vu (w:World)(base:Nat)(v:Value)(xs:List Nat)(vs:List Value):Prop where
 own:w.ownsRow base 56 1 v xs.length vs
 num:∀i,i<xs.length->∃(B:zf) (m d:Nat),vs[i]?=some (.slice B m d)/\zp w (xs.getD i 0) B m d/\kt base v B m
theorem vu.nil (w:World)(a:Nat):vu w a (.slice none 0 0) [] []:=⟨XH _ _ _ _,λi hi=>by simp at hi⟩
theorem vu.len (h:vu w a v xs vs):vs.length=xs.length:=by have:=h.own.1;omega
theorem vu.shape (h:vu w a v xs vs):∃A c,v=.slice A xs.length c/\jz w A xs.length c xs:=by
 obtain⟨A,c,e,h1,h2,h3⟩:=zE.of_grown_own h.own;refine⟨A,c,e,rfl,h1,by unfold maxLen at h2;omega,λi hi=>?_⟩;obtain⟨B,m,d,hv,hw,_⟩:=h.num i hi;obtain⟨ad,ea,hb,hc⟩:=h3.2 za;exact⟨ad,B,m,d,ea,hb,hc i _ hv,hw⟩
theorem vu.below (h:vu w a v xs vs)(hb:Below w.heap.size w w'):vu w' a v xs vs:=by
 refine⟨⟨h.own.1,?_⟩,λi hi=>?_⟩
 ·rcases h.own.2 with h1|⟨g,cap,cur,e1,e2,e3,e4⟩
  ·exact .inl h1
  ·exact .inr ⟨g,cap,cur,e1,e2,(hb.block g (zi.lt (t:=56) (cs:=cur) e3)).trans e3,e4⟩
 ·obtain⟨B,m,d,hv,hw,hf⟩:=h.num i hi;exact⟨B,m,d,hv,hw.below hb,hf⟩
theorem vu.set_ (h:vu w a v xs vs){p:Addr}(hp:p.block<a)(u:Value):vu (w.setCell p u) a v xs vs:=by
 refine⟨⟨h.own.1,?_⟩,λi hi=>?_⟩
 ·rcases h.own.2 with h1|⟨g,cap,cur,e1,e2,e3,e4⟩
  ·exact .inl h1
  ·exact .inr ⟨g,cap,cur,e1,e2,zi.far (t:=56) (cs:=cur) e3 za u,e4⟩
 ·obtain⟨B,m,d,hv,hw,hf⟩:=h.num i hi;exact⟨B,m,d,hv,jf hw (λhm ad e=>by have:=(hf hm ad e).1;omega) u,hf⟩
theorem vu.grow {n:Nat}(h:vu w a v xs vs)(hx:zp w x B m d)(hB:kt a v B m)
  (ho:w'.ownsRow a 56 1 v' n (vs++[.slice B m d])) (hn:n=xs.length+1) (hg:w.grownBy w' v.ownBlock) (ha:v'.ownBlock=v.ownBlock\/v'.ownBlock=some w.heap.size):vu w' a v' (xs++[x]) (vs++[.slice B m d]):=by
 have hl:=h.len;refine⟨by rw [qA,XS,<-hn];exact ho,λi hi=>?_⟩;rw [qA,XS] at hi;by_cases hlt:i<xs.length
 ·obtain⟨C,k,e,hv,hw,hf⟩:=h.num i hlt;obtain⟨h1,h2⟩:=hf.grow hw hg ha;refine⟨C,k,e,by rw [qO za];exact hv,?_,h2⟩;rw [qQ,qO hlt,<-qQ];exact h1
 ·have g:i=xs.length:=za;subst g;obtain⟨h1,h2⟩:=hB.grow hx hg ha;refine⟨B,m,d,by rw [qD za,hl];simp,?_,h2⟩;rw [qQ,qD (qX _)];simpa using h1
theorem eG (p q r s:Nat)(hp:p<18446744073709551616)(hq:q<18446744073709551616)(hr:r<18446744073709551616)(hs:s<18446744073709551616)(w:World):
  Calls prog 119 #[.int .u64 p,.int .u64 q,.int .u64 r,.int .u64 s] w λe w'=>e=.returned (.tuple #[.int .u64 (((p*q+r+s) / 18446744073709551616:Nat):Int),.int .u64 (((p*q+r+s)%18446744073709551616:Nat):Int)])/\w=w':=by
 have h:=Xk p q r s ⟨za,za⟩ ⟨za,za⟩ ⟨za,za⟩ ⟨za,za⟩ w;rw [(tS p q r s).1,(tS p q r s).2] at h;exact h
theorem jk (x y:Nat)(A D:zf)(n m c d:Nat)(w:World)(hA:zp w x A n c)(hD:zp w y D m d)(hn:n<=274877906944)(hm:m<=274877906944):
  Calls prog 98 #[.agg #[.slice A n c],.agg #[.slice D m d]] w (yq w (x*y)):=by
 obtain⟨i0,ae,ai,aj,ak⟩:=info_parts rN;have af:=zd hA.len;have U:=zd hD.len;have HA:=zn w (λw' hb=>hA.below hb);have HW:=(λw' (hb:Below w.heap.size w w')=>nM y D m d w' (hD.below hb) za);unfold gX at HW;rw [U.o] at HW;have X:=zd HW;obtain⟨N,hN⟩:∃N,n+m=N:=⟨_,rfl⟩;have HN:=zd hN;have hN1:N<=549755813888:=za;obtain⟨Z,hZ⟩:∃Z,madeCells (Value.cells (.int .u64 0)) N=Z:=⟨_,rfl⟩;have ag:∀W:World,(Instr.makeSlice 54 (.int .i64 ((n:Int)+(m:Int))) (.int .i64 ((n:Int)+(m:Int)))).run prog W=.ok (.slice (some ⟨W.heap.size,0,none⟩) N N) (W.alloc (.cells Z 141)):=λW=>by
  have h:=uv _ _ i0 _ underlying54 ae ai .i64 .i64 N N (qX _) (by rw [ak];omega) za W;rw [aj,xO,hZ] at h;rw [show(n:Int)+(m:Int)=(N:Int) from by omega];exact h
 have HZ:=zd hZ;clear hZ hA hD hN HW;go_enter func98,ntmps98;go_wp2_with fail;generalize hW:((w.alloc (.cells #[.slice A n c] 56)).alloc (.cells #[.slice D m d] 56)).alloc (.cells #[.slice none 0 0] 56)=W0;obtain⟨b1,b2,b3,b4,b5⟩:=yc w 56 56 56 #[.slice A n c] #[.slice D m d] #[.slice none 0 0];rw [hW] at b1 b2 b3 b4 b5;have g1:W0.cell? ⟨w.heap.size,0,none⟩=some (.slice A n c):=b2.cell 0;clear hW b2 b3;refine(X.o _ b1).mono ?_;rintro e w1 ⟨A1,c1,rfl,i,_,⟨_,ac⟩,hb⟩;have hB:=ze b1 hb;have g1:=zq hb g1;have hk:=zj hb b4;have I:w.heap.size+3<=w1.heap.size:=qC b5 hb.size;clear hb b1 b4 b5 ac;go_wp2_with fail;refine(wN x _ _ _ _).mono ?_;rintro e w2 ⟨rfl,hb⟩;have hB:=ze hB hb;have g1:=zq hb g1;have hk:=zj hb hk;have i:=(i.below hb).more hb.size;have I:w.heap.size+3<=w2.heap.size:=qC I hb.size;have Y:=λo=>yo o g1;clear hb;go_wp2_with fail;have hR:zy (w2.alloc (.cells Z 141)) 141 w2.heap.size N N (List.replicate N 0):=by
  have h:=zy.made w2 141 N (by unfold maxLen;omega);rw [HZ.o] at h;exact h
 obtain⟨gs,G⟩:∃g,w2.heap.size=g:=⟨_,rfl⟩;have hB:=ym (.cells Z 141) hB;have g1:=yo (.cells Z 141) g1;have hk:=hk.alloc (.cells Z 141);have i:=(i.alloc (qX _) (.cells Z 141)).more (B':=gs) za;rw [G] at hR I;generalize w2.alloc (.cells Z 141)=W3 at*;rw [G];clear G ag Y;refine(wN x _ _ _ _).mono ?_;rintro e w4 ⟨rfl,hb⟩;have hB:=ze hB hb;have g1:=zq hb g1;have hk:=zj hb hk;have i:=i.below (hb.mono (yY hR.lt));have hR:=hR.keep hb;have hI:=zd (rq.start x y m N);clear hb;go_wp2_with fail
 go_loopg [22] (n+1) (λg ix wr=>∃(k:Nat) (L:List Nat),k<=n/\n<g+k/\ix=.int .i64 k/\rq x y k m N L/\zy wr 141 gs N N L/\Below w.heap.size w wr/\wr.cell? ⟨w.heap.size,0,none⟩=some (.slice A n c)/\zi wr (w.heap.size+1+1) 56 #[.slice none 0 0]/\zE wr gs 1 A1 m (zw .u64 (dg 18446744073709551616 y)))
 case atStart=>exact⟨0,_,xQ _,za,rfl,hI.o,hR,hB,g1,hk,i⟩
 case round=>
  clear hB g1 hk i hR hI;obtain⟨k,L0,hkn,hg,rfl,hM,hR,hB,g1,hk,i⟩:=hrel;obtain⟨wo,ah⟩:∃wo,wo=wr:=⟨_,rfl⟩;subst ah;by_cases hlt:k<n
  ·have WX:=zn w (λw' h=>oH x A n c k w' (HA.o w' h));have ha:=xl x k;have F:=zd (wt.start y (wd x k) k hM.len hM.dgs);have E:=zd (λL c (h:wt L0 y (wd x k) k m N L c)=>rq.step hM h (by have:=U.o;omega) (by have:=HN.o;omega));obtain⟨a,P⟩:∃a,wd x k=a:=⟨_,rfl⟩;rw [P] at WX ha F E;clear P hM;go_wp2_with fail;refine(WX.o _ hB).mono ?_;rintro e w5 ⟨rfl,hb⟩;have hB:=ze hB hb;have g1:=zq hb g1;have hk:=zj hb hk;have i:=i.below (hb.mono (yY hR.lt));have hR:=hR.keep hb;clear hb;go_wp2_with fail
   go_loopg [9,30] (m+1) (λg cy jx wr=>∃(j cc:Nat) (L:List Nat),j<=m/\m<g+j/\jx=.int .i64 j/\cy=.int .u64 cc/\wt L0 y a k j N L cc/\zy wr 141 gs N N L/\Below w.heap.size w wr/\wr.cell? ⟨w.heap.size,0,none⟩=some (.slice A n c)/\zi wr (w.heap.size+1+1) 56 #[.slice none 0 0]/\zE wr gs 1 A1 m (zw .u64 (dg 18446744073709551616 y)))
   case atStart=>exact⟨0,0,L0,xQ _,za,rfl,rfl,F.o,hR,hB,g1,hk,i⟩
   case round=>
    clear hB g1 hk i hR F;obtain⟨j,cc,L,hjm,hg2,rfl,rfl,hI,hR,hB,g1,hk,i⟩:=hrel;by_cases hjl:j<m
    ·have t:=HN.o;obtain⟨ad,rfl,hadb,h1⟩:=ug i (k:=j) hjl;rw [rM] at h1;have hp:=hI.dgs.getD zh (k+j);have h2:=hR.cell (k+j) za;have h3:=hR.frozen (k+j);have Q:=xl y j;have ab:=hI.carry;have B:=hI.step (s:=wd y j*a+L.getD (k+j) 0+cc) ha za rfl;obtain⟨b,R⟩:∃b,wd y j=b:=⟨_,rfl⟩;obtain⟨p,V⟩:∃b,L.getD (k+j) 0=b:=⟨_,rfl⟩;rw [R] at h1 Q B;rw [V] at h2 hp B;have J:=zd (λw'=>eG b a p cc Q ha hp ab w');obtain⟨s1,e1⟩:∃s1,(b*a+p+cc)%18446744073709551616=s1:=⟨_,rfl⟩;obtain⟨s2,e2⟩:∃s2,(b*a+p+cc) / 18446744073709551616=s2:=⟨_,rfl⟩;rw [e1,e2] at J B;have M:=zd B;have z:=zd (hR.set_ (k+j) s1 za);obtain⟨q,hq⟩:∃q,k+j=q:=⟨_,rfl⟩;rw [hq] at h2 h3 M z;have i1:(0:Int)<=(k:Int)+(j:Int):=za;have i2:(k:Int)+(j:Int)<(N:Int):=za;have i3:((k:Int)+(j:Int)).toNat=q:=za;have C:=λu=>zH (p:=⟨gs,q,none⟩) u (by show w.heap.size<=gs;omega) hB;have gS:=λu=>zS (p:=⟨w.heap.size,0,none⟩) (q:=⟨gs,q,none⟩) u (by show w.heap.size≠gs;omega) g1;have kS:=λu=>hk.far (p:=⟨gs,q,none⟩) (by show w.heap.size+1+1≠gs;omega) u;clear B R V e1 e2 hI hq t;go_wp2_with fail;refine(J.o _).mono ?_;rintro e w' ⟨rfl,rfl⟩;go_wp2;go_roundg (m - j)
     case measure=>omega
     case rel=>exact⟨j+1,s2,_,za,za,by go_num,rfl,M.o,z.o,C _,gS _,kS _,i.setCell (qX _) _⟩
    ·have S:j=m:=za;subst S;have t:=HN.o;have h3:=hR.frozen (k+j);have K:=zd (E.o L cc hI);have z:=zd (hR.set_ (k+j) cc za);obtain⟨u,hu⟩:∃u,wr.cell? ⟨gs,k+j,none⟩=some u:=⟨_,hR.cell (k+j) za⟩;obtain⟨q,hq⟩:∃q,k+j=q:=⟨_,rfl⟩;rw [hq] at h3 K z hu;have i1:(0:Int)<=(k:Int)+(j:Int):=za;have i2:(k:Int)+(j:Int)<(N:Int):=za;have i3:((k:Int)+(j:Int)).toNat=q:=za;have C:=λu=>zH (p:=⟨gs,q,none⟩) u (by show w.heap.size<=gs;omega) hB;have gS:=λu=>zS (p:=⟨w.heap.size,0,none⟩) (q:=⟨gs,q,none⟩) u (by show w.heap.size≠gs;omega) g1;have kS:=λu=>hk.far (p:=⟨gs,q,none⟩) (by show w.heap.size+1+1≠gs;omega) u;clear hI hq t E;go_wp2;go_roundg (n - k)
     case measure=>omega
     case rel=>exact⟨k+1,_,za,za,by go_num,K.o,z.o,C _,gS _,kS _,i.setCell (qX _) _⟩
  ·have T:k=n:=za;subst T;have t:=HN.o;have e:=rq.done (L:=L0) (by rw [t];exact hM) (by have:=af.o;omega);have O:=vr (some ⟨gs,0,none⟩) N N L0 wo hR.reads hM.dgs (qX _) za za;rw [e] at O;have HO:=zd O;clear O e t hM;go_wp2_with fail;refine HO.o.mono ?_;rintro e w' ⟨A2,n2,c2,rfl,hw,hb,hf⟩;have H:=zj hb hk;have aa:w'.cell? ⟨w.heap.size+1+1,0,none⟩=some (.slice none 0 0):=H.cell 0;have hf1:=H.frozen 0;have hsz:=hR.lt;have HG : zg (yq w (x * y) (.returned (.agg #[.slice A2 n2 c2])) (w'.setCell ⟨w.heap.size + 1 + 1,0,none⟩ (.slice A2 n2 c2))) :=
    ji hw (ze hB hb) (by show _<=_;simp;omega) (λad e=>by have:=hf ad e;show ad.block≠_;simp;omega) (λad e=>by have:=hf ad e;omega) _
   clear hb hw hf H hsz hk hB g1 i hR;go_wp2;refine bodyPost_ret (v:=.agg #[.slice A2 n2 c2]) (by simp [results,results98,go_sem,aa]) rfl ?_;exact HG.o
