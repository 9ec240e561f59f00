/- What this claim leans on. -/
import Derived.Test.YtielpgdebeggbaaGreatDoorWBunM
import Derived.BigRegion
import Derived.IntWalk
set_option linter.unusedVariables false
set_option linter.unusedSimpArgs false
namespace Go.Proofs.YtielpgdebeggbaaGreatDoor
open Go Go.RowKit Go.Proofs.Tryz
set_option maxHeartbeats 16000000
set_option maxRecDepth 100000
variable {xs:List Nat}{vs:List Value}{a b c d g i m n x:Nat}{t:TypeId}{v v':Value}{w w':World}{A B:ze}
theorem fP (x:Nat)(A:ze)(n c:Nat)(w:World)(h:zp w x A n c)(hn:n<=1099511627776):
  Calls prog 107 #[.agg #[.slice A n c]] w (fi w n (zB .u64 (dg 18446744073709551616 x))):=by
 obtain⟨hr,h1,h2⟩:=h;have a:=hr.len_;have C:∀o,Calls prog 131 #[.slice A n c] (w.alloc o) (fi w n (zB .u64 (dg 18446744073709551616 x))):=λo=>by
  have i:=((hr.alloc (qX _) o).more (B':=(w.alloc o).heap.size) zA);rcases A with _|ad
  ·have d:n=0:=by
    rcases xQ n with h|h
    ·exact h
    ·obtain⟨ad,e,_⟩:=hr.2 h;cases e
   subst d;have hl:zB .u64 (dg 18446744073709551616 x)=[]:=by rw [QU a];rfl
   rw [hl];exact(Tt c _).mono λe w' ⟨he,hw⟩=>⟨_,he,XO _ _ _ _,by rw [<-hw];exact(qZ _ w).alloc (qX _) o⟩
  ·refine(Yk ad n c _ (w.alloc o) i hn).mono λe w' ⟨v,he,ho,hb⟩=>?_;refine⟨v,he,⟨ho.1,?_⟩,((qZ _ w).alloc (qX _) o).trans (hb.mono zA)⟩;rcases ho.2 with h|⟨g,cap,cur,e1,e2,e3⟩
   ·exact .inl h
   ·exact .inr ⟨g,cap,cur,e1,qH zA e2,e3⟩
 obtain⟨L,hL⟩:∃L,zB .u64 (dg 18446744073709551616 x)=L:=⟨_,rfl⟩;rw [hL] at C⊢;have HC:=za C;clear C hr a hL;go_enter func107,ntmps107;go_wp2_with fail;refine(HC.o _).mono ?_;intro e w1 hg;have G:=za hg;obtain⟨v,rfl,_,_⟩:=hg;go_wp2;go_ret;exact G.o
def zF (w:World)(t:TypeId)(g cap n:Nat)(L:List Nat):Prop:=
 ∃cur,zh w g t cur/\n<=cap/\cap<=maxLen/\cur.size=cap/\L.length=n/\cur.toList.take n=zB .u64 L
section
variable {w w':World}{t:TypeId}{g cap n:Nat}{L:List Nat}
theorem zF.len (h:zF w t g cap n L):L.length=n:=by obtain⟨_,_,_,_,_,h,_⟩:=h;exact h
theorem zF.room (h:zF w t g cap n L):n<=cap/\cap<=maxLen:=by obtain⟨_,_,h,h2,_⟩:=h;exact⟨h,h2⟩
theorem zF.lt (h:zF w t g cap n L):g<w.heap.size:=by obtain⟨_,h,_⟩:=h;exact h.lt
theorem lw (k:IntKind)(l:List Nat)(i:Nat)(h:i<l.length):(zB k l)[i]?=some (.int k (l.getD i 0:Nat)):=by
 simp [zB,List.getD,qY h]
theorem zF.cell (h:zF w t g cap n L)(k:Nat)(hk:k<n):w.cell? ⟨g,k,none⟩=some (.int .u64 (L.getD k 0:Nat)):=by
 obtain⟨cur,hb,h1,h2,h3,h4,h5⟩:=h;rw [hb.cell k,<-QS,<-lw .u64 L k zb,<-h5,xD,if_pos hk]
theorem zF.frozen (h:zF w t g cap n L)(k:Nat):w.frozen? ⟨g,k,none⟩=false:=by
 obtain⟨cur,hb,_⟩:=h;exact hb.frozen k
theorem zF.set_ (h:zF w t g cap n L)(k d:Nat)(hk:k<n):zF (w.setCell ⟨g,k,none⟩ (.int .u64 (d:Int))) t g cap n (L.set k d):=by
 obtain⟨cur,hb,h1,h2,h3,h4,h5⟩:=h;refine⟨_,hb.set_ k _,h1,h2,by simpa using h3,by simpa using h4,?_⟩;rw [QD,YV,h5];unfold zB;rw [List.map_set]
theorem zF.below {B:Nat}(h:zF w t g cap n L)(hb:Below B w w')(hg:g<B):zF w' t g cap n L:=by
 obtain⟨a,h0,h1⟩:=h;exact⟨a,h0.below hb hg,h1⟩
theorem zF.keep (h:zF w t g cap n L)(hb:Below w.heap.size w w'):zF w' t g cap n L:=h.below hb h.lt
theorem zF.drew (h:zF w t g cap n L):zF w.drew t g cap n L:=h
theorem zF.alloc (h:zF w t g cap n L)(o:Obj):zF (w.alloc o) t g cap n L:=by
 obtain⟨a,h0,h1⟩:=h;exact⟨a,h0.alloc o,h1⟩
theorem zF.far (h:zF w t g cap n L){p:Addr}(hp:g≠p.block)(u:Value):zF (w.setCell p u) t g cap n L:=by
 obtain⟨a,h0,h1⟩:=h;exact⟨a,h0.far hp u,h1⟩
theorem zF.reads (h:zF w t g cap n L):zK w w.heap.size 1 (some ⟨g,0,none⟩) n (zB .u64 L):=by
 have hl:=h.lt;have hc:=h.cell;have hn:=h.len;refine⟨by rw [wS];omega,λ_=>⟨_,rfl,hl,λj u hu=>?_⟩⟩;have hj:j<L.length:=by
  rcases XQ j L.length with hj|hj
  ·exact hj
  ·rw [QL (by rw [wS];exact hj)] at hu;cases hu
 have e:(⟨g,0,none⟩:Addr).add j=⟨g,j,none⟩:=by unfold Addr.add;split<;>simp_all
 rw [e,hc j zb,<-lw .u64 L j hj,hu]
theorem zF.own (h:zF w t g cap n L){a:Nat}(hb:a<=g):w.ownsRow a t 1 (.slice (some ⟨g,0,none⟩) n cap) n (zB .u64 L):=by
 obtain⟨c,h0,h1,h2,h3,h4,h5⟩:=h;exact⟨by rw [wS];omega,.inr ⟨g,cap,c,rfl,hb,h0,h1,h2,zb,by rw [xV];exact h5⟩⟩
theorem zF.made (w:World)(t:TypeId)(N:Nat)(hN:N<=maxLen):zF (w.alloc (.cells (madeCells (Value.cells (.int .u64 0)) N) t)) t w.heap.size N N (List.replicate N 0):=by
 refine⟨_,zh.new w t _,qX _,hN,size_madeCells _ _,zA,?_⟩;show(madeCells #[Value.int .u64 0] N).toList.take N=_;rw [toList_madeCells_one,qV zA];simp [zB]
theorem zF.of_own {l:List Nat}(h:w.ownsRow i t 1 v n (zB .u64 l))(hn:0<n):∃g cap,v=.slice (some ⟨g,0,none⟩) n cap/\i<=g/\zF w t g cap n l:=by
 obtain⟨h1,h2⟩:=h;rcases h2 with⟨_,h⟩|⟨g,cap,cur,e,hb,hk,a,b,c,d⟩
 ·omega
 ·refine⟨g,cap,e,hb,cur,hk,a,b,zb,by rw [wS] at h1;omega,?_⟩;rw [xV] at d;exact d
end
theorem zK.of_grown_own {xs:List Value}(h:w.ownsRow i t 1 v n xs):∃A c,v=.slice A n c/\n<=c/\c<=maxLen/\zK w w.heap.size 1 A n xs:=by
 have h0:=h;obtain⟨h1,h2⟩:=h;rcases h2 with⟨e,hn⟩|⟨g,cap,cur,e,hb,hk,a,b,c,d⟩
 ·subst hn;exact⟨none,0,e,qX _,by unfold maxLen;omega,by subst e;exact zK.of_own h0⟩
 ·exact⟨_,_,e,a,b,by subst e;exact zK.of_own h0⟩
structure cH (w:World)(A:ze)(n c:Nat)(xs:List Nat):Prop where
 len:xs.length=n
 fits:n<=c
 most:c<=9223372036854775807
 num:∀i,i<n->∃(ad:Addr) (B:ze) (m d:Nat),A=some ad/\ad.block<w.heap.size/\w.cell? (ad.add i)=some (.slice B m d)/\zp w (xs.getD i 0) B m d
theorem cH.below (h:cH w A n c xs)(hb:Below w.heap.size w w'):cH w' A n c xs:=
 ⟨h.len,h.fits,h.most,λi hi=>by
  obtain⟨ad,B,m,d,e,h1,h2,h3⟩:=h.num i hi;exact⟨ad,B,m,d,e,qJ h1 hb.size,zv hb h2,h3.below hb⟩⟩
theorem eM (h:zp w x A n c){p:Addr}(hp:0<n->∀ad,A=some ad->ad.block≠p.block)(u:Value):zp (w.setCell p u) x A n c:=by
 by_cases hn:0<n
 ·exact lz h (hp hn) u
 ·exact⟨⟨h.1.1,λh0=>absurd h0 hn⟩,h.2⟩
theorem Y9 (h:zp w x B m d){row:Option Nat}(hg:w.grownBy w' row)(hr:0<m->∀ad,B=some ad->some ad.block≠row):zp w' x B m d:=by
 obtain⟨a,h1,h2⟩:=h;refine⟨⟨a.1,λhn=>?_⟩,h1,h2⟩;obtain⟨ad,e,hb,hc⟩:=a.2 hn;refine⟨ad,e,qJ hb hg.size,λj u hu=>?_⟩;exact(World.cell?_of_block (hg.block _ (by rw [yk];exact hb) (by rw [yk];exact hr hn ad e))).trans (hc j u hu)
theorem T4 {a:ze}(h:zp w x A n c)(hk:zh w g t #[.slice a b d]):0<n->∀ad,A=some ad->ad.block≠g:=λhn ad e hg=>by
 obtain⟨ad',e',_,hc⟩:=h.1.2 hn;rw [e] at e';injection e' with e';subst e';have hl:=h.len;have h0:=hc 0 (.int .u64 ((dg 18446744073709551616 x).getD 0 0:Nat)) (lw .u64 _ 0 zb);have e0:ad.add 0=ad:=by unfold Addr.add;rw [if_pos rfl]
 rw [e0] at h0;obtain⟨bk,off,pr⟩:=ad;simp only at hg;subst hg;unfold zh at hk;cases pr with
 |none=>
   rw [show w.cell? ⟨bk,off,none⟩=#[Value.slice a b d][off]? from cell_of_row w bk off _ t (0,0) hk] at h0
   match off,h0 with
   |0,h0=>simp at h0
   |o+1,h0=>simp at h0
 |some q=>simp [World.cell?,hk] at h0
theorem bK {a:ze}(h:zp w x A n c)(hk:zh w g t #[.slice a b d])(u:Value):zp (w.setCell ⟨g,0,none⟩ u) x A n c:=
 eM h (T4 h hk) u
theorem wg {a:ze}(h:zp w x A n c)(hk:xf w g (.slice a b d))(u:Value):zp (w.setCell ⟨g,0,none⟩ u) x A n c:=by
 obtain⟨t,hk⟩:=hk;exact bK h hk u
def fL (base:Nat)(v:Value)(B:ze)(m:Nat):Prop:=0<m->∀ad,B=some ad->base<=ad.block/\v.ownBlock≠some ad.block
theorem fL.grow (h:fL a v B m)(hx:zp w x B m d)(hg:w.grownBy w' v.ownBlock)(ha:v'.ownBlock=v.ownBlock\/v'.ownBlock=some w.heap.size):zp w' x B m d/\fL a v' B m:=by
 refine⟨Y9 hx hg (λhm ad e=>(h hm ad e).2.symm),λhm ad e=>⟨(h hm ad e).1,?_⟩⟩;rcases ha with ha|ha
 ·rw [ha];exact(h hm ad e).2
 ·rw [ha];obtain⟨ad',e',hlt,_⟩:=hx.1.2 hm;rw [e] at e';injection e' with e';subst e';intro hh;injection hh with hh;omega
structure uY (w:World)(base:Nat)(v:Value)(xs:List Nat)(vs:List Value):Prop where
 own:w.ownsRow base 48 1 v xs.length vs
 num:∀i,i<xs.length->∃(B:ze) (m d:Nat),vs[i]?=some (.slice B m d)/\zp w (xs.getD i 0) B m d/\fL base v B m
theorem uY.nil (w:World)(a:Nat):uY w a (.slice none 0 0) [] []:=⟨XO _ _ _ _,λi hi=>by simp at hi⟩
theorem uY.len (h:uY w a v xs vs):vs.length=xs.length:=by have:=h.own.1;omega
theorem uY.shape (h:uY w a v xs vs):∃A c,v=.slice A xs.length c/\cH w A xs.length c xs:=by
 obtain⟨A,c,e,h1,h2,h3⟩:=zK.of_grown_own h.own;refine⟨A,c,e,rfl,h1,by unfold maxLen at h2;omega,λi hi=>?_⟩;obtain⟨B,m,d,hv,hw,_⟩:=h.num i hi;obtain⟨ad,ea,hb,hc⟩:=h3.2 zb;exact⟨ad,B,m,d,ea,hb,hc i _ hv,hw⟩
theorem uY.below (h:uY w a v xs vs)(hb:Below w.heap.size w w'):uY w' a v xs vs:=by
 refine⟨⟨h.own.1,?_⟩,λi hi=>?_⟩
 ·rcases h.own.2 with h1|⟨g,cap,cur,e1,e2,e3,e4⟩
  ·exact .inl h1
  ·exact .inr ⟨g,cap,cur,e1,e2,(hb.block g (zh.lt (t:=48) (cs:=cur) e3)).trans e3,e4⟩
 ·obtain⟨B,m,d,hv,hw,hf⟩:=h.num i hi;exact⟨B,m,d,hv,hw.below hb,hf⟩
theorem uY.set_ (h:uY w a v xs vs){p:Addr}(hp:p.block<a)(u:Value):uY (w.setCell p u) a v xs vs:=by
 refine⟨⟨h.own.1,?_⟩,λi hi=>?_⟩
 ·rcases h.own.2 with h1|⟨g,cap,cur,e1,e2,e3,e4⟩
  ·exact .inl h1
  ·exact .inr ⟨g,cap,cur,e1,e2,zh.far (t:=48) (cs:=cur) e3 zb u,e4⟩
 ·obtain⟨B,m,d,hv,hw,hf⟩:=h.num i hi;exact⟨B,m,d,hv,eM hw (λhm ad e=>by have:=(hf hm ad e).1;omega) u,hf⟩
theorem uY.grow {n:Nat}(h:uY w a v xs vs)(hx:zp w x B m d)(hB:fL a v B m)
  (ho:w'.ownsRow a 48 1 v' n (vs++[.slice B m d])) (hn:n=xs.length+1) (hg:w.grownBy w' v.ownBlock) (ha:v'.ownBlock=v.ownBlock\/v'.ownBlock=some w.heap.size):uY w' a v' (xs++[x]) (vs++[.slice B m d]):=by
 have hl:=h.len;refine⟨by rw [qB,YA,<-hn];exact ho,λi hi=>?_⟩;rw [qB,YA] at hi;by_cases hlt:i<xs.length
 ·obtain⟨C,k,e,hv,hw,hf⟩:=h.num i hlt;obtain⟨h1,h2⟩:=hf.grow hw hg ha;refine⟨C,k,e,by rw [QG zb];exact hv,?_,h2⟩;rw [qQ,QG hlt,<-qQ];exact h1
 ·have c:i=xs.length:=zb;subst c;obtain⟨h1,h2⟩:=hB.grow hx hg ha;refine⟨B,m,d,by rw [qT zb,hl];simp,?_,h2⟩;rw [qQ,qT (qX _)];simpa using h1
theorem Xs (p q r s:Nat)(hp:p<18446744073709551616)(hq:q<18446744073709551616)(hr:r<18446744073709551616)(hs:s<18446744073709551616)(w:World):
  Calls prog 127 #[.int .u64 p,.int .u64 q,.int .u64 r,.int .u64 s] w λe w'=>e=.returned (.tuple #[.int .u64 (((p*q+r+s) / 18446744073709551616:Nat):Int),.int .u64 (((p*q+r+s)%18446744073709551616:Nat):Int)])/\w=w':=by
 have h:=SR p q r s ⟨zb,zb⟩ ⟨zb,zb⟩ ⟨zb,zb⟩ ⟨zb,zb⟩ w;rw [(qi p q r s).1,(qi p q r s).2] at h;exact h
theorem eY (x y:Nat)(A D:ze)(n m c d:Nat)(w:World)(hA:zp w x A n c)(hD:zp w y D m d)(hn:n<=274877906944)(hm:m<=274877906944):
  Calls prog 97 #[.agg #[.slice A n c],.agg #[.slice D m d]] w (xu w (x*y)):=by
 obtain⟨i0,ae,ai,aj,ak⟩:=info_parts oS;have af:=za hA.len;have U:=za hD.len;have HA:=zj w (λw' hb=>hA.below hb);have HW:=(λw' (hb:Below w.heap.size w w')=>ja y D m d w' (hD.below hb) zb);unfold ZX at HW;rw [U.o] at HW;have X:=za HW;obtain⟨N,hN⟩:∃N,n+m=N:=⟨_,rfl⟩;have HN:=za hN;have hN1:N<=549755813888:=zb;obtain⟨Z,hZ⟩:∃Z,madeCells (Value.cells (.int .u64 0)) N=Z:=⟨_,rfl⟩;have ag:∀W:World,(Instr.makeSlice 46 (.int .i64 ((n:Int)+(m:Int))) (.int .i64 ((n:Int)+(m:Int)))).run prog W=.ok (.slice (some ⟨W.heap.size,0,none⟩) N N) (W.alloc (.cells Z 133)):=λW=>by
  have h:=sx _ _ i0 _ underlying46 ae ai .i64 .i64 N N (qX _) (by rw [ak];omega) zb W;rw [aj,xV,hZ] at h;rw [show(n:Int)+(m:Int)=(N:Int) from by omega];exact h
 have HZ:=za hZ;clear hZ hA hD hN HW;go_enter func97,ntmps97;go_wp2_with fail;generalize hW:((w.alloc (.cells #[.slice A n c] 48)).alloc (.cells #[.slice D m d] 48)).alloc (.cells #[.slice none 0 0] 48)=W0;obtain⟨b1,b2,b3,b4,b5⟩:=y9 w 48 48 48 #[.slice A n c] #[.slice D m d] #[.slice none 0 0];rw [hW] at b1 b2 b3 b4 b5;have g1:W0.cell? ⟨w.heap.size,0,none⟩=some (.slice A n c):=b2.cell 0;clear hW b2 b3;refine(X.o _ b1).mono ?_;rintro e w1 ⟨A1,c1,rfl,i,_,⟨_,ac⟩,hb⟩;have hB:=zc b1 hb;have g1:=zv hb g1;have hk:=zg hb b4;have I:w.heap.size+3<=w1.heap.size:=qH b5 hb.size;clear hb b1 b4 b5 ac;go_wp2_with fail;refine(vX x _ _ _ _).mono ?_;rintro e w2 ⟨rfl,hb⟩;have hB:=zc hB hb;have g1:=zv hb g1;have hk:=zg hb hk;have i:=(i.below hb).more hb.size;have I:w.heap.size+3<=w2.heap.size:=qH I hb.size;have Y:=λo=>xv o g1;clear hb;go_wp2_with fail;have hR:zF (w2.alloc (.cells Z 133)) 133 w2.heap.size N N (List.replicate N 0):=by
  have h:=zF.made w2 133 N (by unfold maxLen;omega);rw [HZ.o] at h;exact h
 obtain⟨gs,G⟩:∃g,w2.heap.size=g:=⟨_,rfl⟩;have hB:=xn (.cells Z 133) hB;have g1:=xv (.cells Z 133) g1;have hk:=hk.alloc (.cells Z 133);have i:=(i.alloc (qX _) (.cells Z 133)).more (B':=gs) zb;rw [G] at hR I;generalize w2.alloc (.cells Z 133)=W3 at*;rw [G];clear G ag Y;refine(vX x _ _ _ _).mono ?_;rintro e w4 ⟨rfl,hb⟩;have hB:=zc hB hb;have g1:=zv hb g1;have hk:=zg hb hk;have i:=i.below (hb.mono (qG hR.lt));have hR:=hR.keep hb;have hI:=za (oA.start x y m N);clear hb;go_wp2_with fail
 go_loopg [22] (n+1) (λg ix wr=>∃(k:Nat) (L:List Nat),k<=n/\n<g+k/\ix=.int .i64 k/\oA x y k m N L/\zF wr 133 gs N N L/\Below w.heap.size w wr/\wr.cell? ⟨w.heap.size,0,none⟩=some (.slice A n c)/\zh wr (w.heap.size+1+1) 48 #[.slice none 0 0]/\zK wr gs 1 A1 m (zB .u64 (dg 18446744073709551616 y)))
 case atStart=>exact⟨0,_,qW _,zb,rfl,hI.o,hR,hB,g1,hk,i⟩
 case round=>
  clear hB g1 hk i hR hI;obtain⟨k,L0,hkn,hg,rfl,hM,hR,hB,g1,hk,i⟩:=hrel;obtain⟨wo,ah⟩:∃wo,wo=wr:=⟨_,rfl⟩;subst ah;by_cases hlt:k<n
  ·have WX:=zj w (λw' h=>lF x A n c k w' (HA.o w' h));have ha:=wJ x k;have F:=za (vC.start y (wd x k) k hM.len hM.dgs);have E:=za (λL c (h:vC L0 y (wd x k) k m N L c)=>oA.step hM h (by have:=U.o;omega) (by have:=HN.o;omega));obtain⟨a,P⟩:∃a,wd x k=a:=⟨_,rfl⟩;rw [P] at WX ha F E;clear P hM;go_wp2_with fail;refine(WX.o _ hB).mono ?_;rintro e w5 ⟨rfl,hb⟩;have hB:=zc hB hb;have g1:=zv hb g1;have hk:=zg hb hk;have i:=i.below (hb.mono (qG hR.lt));have hR:=hR.keep hb;clear hb;go_wp2_with fail
   go_loopg [9,30] (m+1) (λg cy jx wr=>∃(j cc:Nat) (L:List Nat),j<=m/\m<g+j/\jx=.int .i64 j/\cy=.int .u64 cc/\vC L0 y a k j N L cc/\zF wr 133 gs N N L/\Below w.heap.size w wr/\wr.cell? ⟨w.heap.size,0,none⟩=some (.slice A n c)/\zh wr (w.heap.size+1+1) 48 #[.slice none 0 0]/\zK wr gs 1 A1 m (zB .u64 (dg 18446744073709551616 y)))
   case atStart=>exact⟨0,0,L0,qW _,zb,rfl,rfl,F.o,hR,hB,g1,hk,i⟩
   case round=>
    clear hB g1 hk i hR F;obtain⟨j,cc,L,hjm,hg2,rfl,rfl,hI,hR,hB,g1,hk,i⟩:=hrel;by_cases hjl:j<m
    ·have t:=HN.o;obtain⟨ad,rfl,hadb,h1⟩:=se i (k:=j) hjl;rw [oQ] at h1;have hp:=hI.dgs.getD zf (k+j);have h2:=hR.cell (k+j) zb;have h3:=hR.frozen (k+j);have Q:=wJ y j;have ab:=hI.carry;have B:=hI.step (s:=wd y j*a+L.getD (k+j) 0+cc) ha zb rfl;obtain⟨b,R⟩:∃b,wd y j=b:=⟨_,rfl⟩;obtain⟨p,V⟩:∃b,L.getD (k+j) 0=b:=⟨_,rfl⟩;rw [R] at h1 Q B;rw [V] at h2 hp B;have J:=za (λw'=>Xs b a p cc Q ha hp ab w');obtain⟨s1,e1⟩:∃s1,(b*a+p+cc)%18446744073709551616=s1:=⟨_,rfl⟩;obtain⟨s2,e2⟩:∃s2,(b*a+p+cc) / 18446744073709551616=s2:=⟨_,rfl⟩;rw [e1,e2] at J B;have M:=za B;have z:=za (hR.set_ (k+j) s1 zb);obtain⟨q,hq⟩:∃q,k+j=q:=⟨_,rfl⟩;rw [hq] at h2 h3 M z;have i1:(0:Int)<=(k:Int)+(j:Int):=zb;have i2:(k:Int)+(j:Int)<(N:Int):=zb;have i3:((k:Int)+(j:Int)).toNat=q:=zb;have C:=λu=>zM (p:=⟨gs,q,none⟩) u (by show w.heap.size<=gs;omega) hB;have gS:=λu=>yn (p:=⟨w.heap.size,0,none⟩) (q:=⟨gs,q,none⟩) u (by show w.heap.size≠gs;omega) g1;have kS:=λu=>hk.far (p:=⟨gs,q,none⟩) (by show w.heap.size+1+1≠gs;omega) u;clear B R V e1 e2 hI hq t;go_wp2_with fail;refine(J.o _).mono ?_;rintro e w' ⟨rfl,rfl⟩;go_wp2;go_roundg (m - j)
     case measure=>omega
     case rel=>exact⟨j+1,s2,_,zb,zb,by go_num,rfl,M.o,z.o,C _,gS _,kS _,i.setCell (qX _) _⟩
    ·have S:j=m:=zb;subst S;have t:=HN.o;have h3:=hR.frozen (k+j);have K:=za (E.o L cc hI);have z:=za (hR.set_ (k+j) cc zb);obtain⟨u,hu⟩:∃u,wr.cell? ⟨gs,k+j,none⟩=some u:=⟨_,hR.cell (k+j) zb⟩;obtain⟨q,hq⟩:∃q,k+j=q:=⟨_,rfl⟩;rw [hq] at h3 K z hu;have i1:(0:Int)<=(k:Int)+(j:Int):=zb;have i2:(k:Int)+(j:Int)<(N:Int):=zb;have i3:((k:Int)+(j:Int)).toNat=q:=zb;have C:=λu=>zM (p:=⟨gs,q,none⟩) u (by show w.heap.size<=gs;omega) hB;have gS:=λu=>yn (p:=⟨w.heap.size,0,none⟩) (q:=⟨gs,q,none⟩) u (by show w.heap.size≠gs;omega) g1;have kS:=λu=>hk.far (p:=⟨gs,q,none⟩) (by show w.heap.size+1+1≠gs;omega) u;clear hI hq t E;go_wp2;go_roundg (n - k)
     case measure=>omega
     case rel=>exact⟨k+1,_,zb,zb,by go_num,K.o,z.o,C _,gS _,kS _,i.setCell (qX _) _⟩
  ·have T:k=n:=zb;subst T;have t:=HN.o;have e:=oA.done (L:=L0) (by rw [t];exact hM) (by have:=af.o;omega);have O:=uW (some ⟨gs,0,none⟩) N N L0 wo hR.reads hM.dgs (qX _) zb zb;rw [e] at O;have HO:=za O;clear O e t hM;go_wp2_with fail;refine HO.o.mono ?_;rintro e w' ⟨A2,n2,c2,rfl,hw,hb,hf⟩;have H:=zg hb hk;have aa:w'.cell? ⟨w.heap.size+1+1,0,none⟩=some (.slice none 0 0):=H.cell 0;have hf1:=H.frozen 0;have hsz:=hR.lt;have HG : zd (xu w (x * y) (.returned (.agg #[.slice A2 n2 c2])) (w'.setCell ⟨w.heap.size + 1 + 1,0,none⟩ (.slice A2 n2 c2))) :=
    dM hw (zc hB hb) (by show _<=_;simp;omega) (λad e=>by have:=hf ad e;show ad.block≠_;simp;omega) (λad e=>by have:=hf ad e;omega) _
   clear hb hw hf H hsz hk hB g1 i hR;go_wp2;refine bodyPost_ret (v:=.agg #[.slice A2 n2 c2]) (by simp [results,results97,go_sem,aa]) rfl ?_;exact HG.o
theorem UJ (x k:Nat)(A:ze)(n c:Nat)(w:World)(hA:zp w x A n c)(hn:n<=549755813888)(hk:k<=65536):
  Calls prog 146 #[.agg #[.slice A n c],.int .i64 k] w (ij w (2^k*x) true):=by
 obtain⟨i0,av,a3,a4,a5⟩:=info_parts oS;have aa:=hA.len;have ak:=za aa;have HA:=zj w (λw' hb=>hA.below hb);have HK:=nK k;obtain⟨q,hq⟩:∃q,k / 64=q:=⟨_,rfl⟩;obtain⟨r,hr⟩:∃r,k%64=r:=⟨_,rfl⟩;rw [hq,hr] at HK;have aj:=za HK;have J:r<64:=zb;have hq1:q<=1024:=zb;obtain⟨N,hN⟩:∃N,q+n+1=N:=⟨_,rfl⟩;have hN0:N<=549755814913:=zb;have ap:(q:Int)+(n:Int)+1=(N:Int):=zb;have aq:IntKind.i64.wrap (N:Int)=(N:Int):=QP _ zb;have M:=za hN;obtain⟨Z,hZ⟩:∃Z,madeCells (Value.cells (.int .u64 0)) (N*i0.size)=Z:=⟨_,rfl⟩;have HZ:zd (Z.toList=zB .u64 (List.replicate N 0)):=by
  show _=_;rw [<-hZ,a4,xV];exact(toList_madeCells_one _ _).trans (by simp [zB])
 have az:∀W:World,(Instr.makeSlice 46 (.int .i64 (N:Int)) (.int .i64 (N:Int))).run prog W=.ok (.slice (some ⟨W.heap.size,0,none⟩) N N) (W.alloc (.cells Z 133)):=λW=>by
  rw [<-hZ];exact sx _ _ i0 _ underlying46 av a3 _ _ N N (qX _) (by rw [a5];omega) zb W
 have hkd:decide ((k:Int)<0)=false:=zA;have hkd2:decide ((65536:Int)<(k:Int))=false:=by simp;omega
 have hkd3:decide ((k:Int)>65536)=false:=by simp;omega
 have ab:(k:Int) / 64=(q:Int):=zb;have ac:(k:Int)%64=(r:Int):=zb;have a0:(k:Int).tdiv 64=(q:Int):=by rw [Int.tdiv_eq_ediv_of_nonneg zb];exact ab
 have a1:(k:Int).tmod 64=(r:Int):=by rw [XA zb];exact ac
 clear hZ hA aa hN hq hr HK;go_enter func146,ntmps146;go_wp2_with fail;generalize hW:(w.alloc (.cells #[.slice A n c] 48)).alloc (.cells #[.slice none 0 0] 48)=W0;obtain⟨b1,b2,b4,b5⟩:=yz w 48 48 #[.slice A n c] #[.slice none 0 0];rw [hW] at b1 b2 b4 b5;have g1:W0.cell? ⟨w.heap.size,0,none⟩=some (.slice A n c):=b2.cell 0;clear hW b2;refine(vX x _ _ _ _).mono ?_;rintro e w2 ⟨rfl,hb⟩;have hB:=zc b1 hb;have H:=zg hb b4;have g1:=zv hb g1;have a2:=hb.size;have hgs:w.heap.size+2<=w2.heap.size:=zb;clear hb a2 b1 b4 b5;have ga:∀o,(w2.alloc o).cell? ⟨w.heap.size,0,none⟩=some (.slice A n c):=λo=>xv o g1;go_wp2_with fail;clear ga;have S:=zh.new w2 133 Z;have hB:=xn (.cells Z 133) hB;have H:=H.alloc (.cells Z 133);have g1:=xv (.cells Z 133) g1;generalize w2.alloc (.cells Z 133)=W1 at*;generalize w2.heap.size=gs at*;clear az ap aq ab ac a0 a1;have am:0<2^r:=xS r
 go_loopg [9,10,31] (n + 1) (fun g _ _ ix wr => ∃ (i cc : Nat) (cs : Array Value) (out : List Nat),i ≤ n ∧ n < g + i ∧ ix = .int .i64 i ∧ zd (mT x (2 ^ r) i out cc) ∧ zd (cs.toList = zB .u64 (List.replicate q 0 ++ out) ++ .int .u64 cc :: zB .u64 (List.replicate (n - i) 0)) ∧ zh wr gs 133 cs ∧
   Below w.heap.size w wr/\wr.cell? ⟨w.heap.size,0,none⟩=some (.slice A n c)/\zh wr (w.heap.size+1) 48 #[.slice none 0 0])
 case atStart=>
  refine⟨0,0,Z,[],zb,zb,rfl,mT.start x _ am,?_,S,hB,g1,H⟩;show Z.toList=zB .u64 (List.replicate q 0++[])++Value.int .u64 0::zB .u64 (List.replicate (n - 0) 0);rw [HZ.o,List.append_nil,Nat.sub_zero,<-Ub,<-fS,List.replicate_append_replicate,show q+(n+1)=N from by have:=M.o;omega]
 case round=>
  clear hB g1 H S;obtain⟨i,cc,cs,out,hi,hg,rfl,t,F,y,hB,g1,B⟩:=hrel;have I:=t.o.len;have u:(zB .u64 (List.replicate q 0++out)).length=q+i:=by rw [wS,qB,yR,I]
  by_cases hlt:i<n
  ·have R:=(HA.o wr hB).1;obtain⟨ad,rfl,U,hx⟩:=se R hlt;rw [oQ] at hx;have ar:=wJ x i;have K:=za (t.o.step (s:=wd x i*2^r+cc) rfl);have V:=t.o.carry;obtain⟨a,ha⟩:∃a,wd x i=a:=⟨_,rfl⟩;rw [ha] at hx ar K;have O:=za (pG (a:=a) J V);have P:=za (Qc (a:=a) J V);obtain⟨m,hm⟩:∃m,n - i=m+1:=⟨n - i - 1,zb⟩;have j:=F.o;rw [hm,Ub] at j;have af:cs.size=q+i+(m+2):=by
    have h:=congrArg List.length j;rw [XP] at h;rw [h,qB,u,xJ,xJ,wS,yR]
   have ag:cs[q+i]?=some (.int .u64 cc):=by
    rw [<-QS,j,qT zb,u,XH];rfl
   have ah:cs[q+i+1]?=some (.int .u64 0):=by
    rw [<-QS,j,qT zb,u,show q+i+1 - (q+i)=1 from by omega];rfl
   have q1:wr.cell? ⟨gs,q+i,none⟩=some (.int .u64 cc):=(y.cell _).trans ag;have q2:=y.frozen (q+i);have ai:=za j;have al:=za u;have HM:=za hm;have hNn:q+i+2<=N:=by have:=M.o;omega
   obtain⟨i1,i2,i3,i4,i5,i6,i7⟩:(0:Int)<=(i:Int)/\(i:Int)<(n:Int)/\(0:Int)<=(q:Int)+(i:Int)/\(q:Int)+(i:Int)<(N:Int)/\(0:Int)<=(q:Int)+(i:Int)+1/\(q:Int)+(i:Int)+1<(N:Int)/\q+i+1<N:=zb;obtain⟨j1,j2,j3,j4,j5⟩:IntKind.i64.wrap ((q:Int)+(i:Int))=(q:Int)+(i:Int)/\IntKind.i64.wrap ((q:Int)+(i:Int)+1)=(q:Int)+(i:Int)+1/\IntKind.i64.wrap (64 - (r:Int))=64 - (r:Int)/\((q:Int)+(i:Int)).toNat=q+i/\((q:Int)+(i:Int)+1).toNat=q+i+1:=⟨QP _ zb,QP _ zb,QP _ zb,zb,zb⟩;clear ha t F R j u hm af ag U I;go_wp2_with fail;go_region;rw [O.o];obtain⟨s1,e1⟩:∃s1,(a*2^r+cc)%18446744073709551616=s1:=⟨_,rfl⟩;obtain⟨s2,e2⟩:∃s2,(a*2^r+cc) / 18446744073709551616=s2:=⟨_,rfl⟩;rw [e1,e2] at K;rw [e2] at P;rw [e1];clear O e1 e2 q1 q2;have z:=(y.set_ (q+i) (.int .u64 (s1:Int))).drew;have ax:=(B.far (p:=⟨gs,q+i,none⟩) (by show w.heap.size+1≠gs;omega) (.int .u64 (s1:Int))).drew;have an:=(zM (p:=⟨gs,q+i,none⟩) (.int .u64 (s1:Int)) (by show w.heap.size<=gs;omega) hB).drew;have g2:((wr.setCell ⟨gs,q+i,none⟩ (.int .u64 (s1:Int))).drew).cell? ⟨w.heap.size,0,none⟩=some (.slice (some ad) n c):=yn _ (by show w.heap.size≠gs;omega) g1;generalize (wr.setCell ⟨gs,q+i,none⟩ (.int .u64 (s1:Int))).drew=w3 at*;have q1:w3.cell? ⟨gs,q+i+1,none⟩=some (.int .u64 0):=(z.cell _).trans (by rw [qK zb];exact ah);have q2:=z.frozen (q+i+1);have hv2:=P.o;clear ah y B hB g1 hx;go_wp2_with fail;have X:=z.set_ (q+i+1) (.int .u64 (s2:Int));have ay:=ax.far (p:=⟨gs,q+i+1,none⟩) (by show w.heap.size+1≠gs;omega) (.int .u64 (s2:Int));have ao:=zM (p:=⟨gs,q+i+1,none⟩) (.int .u64 (s2:Int)) (by show w.heap.size<=gs;omega) an;have g5:=yn (q:=⟨gs,q+i+1,none⟩) (.int .u64 (s2:Int)) (by show w.heap.size≠gs;omega) g2;go_roundg (n - i)
   case measure=>omega
   case rel=>
    refine⟨i+1,s2,_,_,zb,zb,by go_num,K.o,?_,X,ao,g5,ay⟩;show _=_;rw [QD,QD,ai.o,mC al.o,<-xX,gU,show n - (i+1)=m from by have:=HM.o;omega,xX];rfl
  ·have aw:i=n:=zb;subst aw;have j:=F.o;rw [XH] at j;have e:=t.o.done (q:=q) (by have:=ak.o;omega);rw [aj.o] at e;have D:cs.toList=zB .u64 (List.replicate q 0++out++[cc]):=by rw [j,gU];rfl
   have C:(List.replicate q 0++out++[cc]).length=N:=by
    have:=M.o;simp [I];omega
   have E:cs.size=N:=by
    have h:=congrArg List.length D;rw [XP,wS,C] at h;exact h
   have Y:zG 18446744073709551616 (List.replicate q 0++out++[cc]):=by
    have h:=t.o.carry;have h2:2^r<=2^63:=qR zf zb;exact((zG.zeros zf q).append t.o.dgs).append (by intro d hd;simp at hd;subst hd;omega)
   have T:=fq (some ⟨gs,0,none⟩) N N wr.heap.size _ wr (ia y E (by rw [<-E,<-XP,List.take_length];exact D) C) Y (qX _) zb zb;rw [e] at T;have HT:=za T;have au:wr.cell? ⟨w.heap.size+1,0,none⟩=some (.slice none 0 0):=B.cell 0;have hf1:=B.frozen 0;clear T y j D C E Y t F e B g1 I u;go_wp2_with fail;refine HT.o.mono ?_;rintro e w2 ⟨A1,c1,rfl,ae,h1,h2,Q,rfl⟩;have G:=eR hB (p:=w.heap.size+1) (gs:=gs) zb zb ae h1 h2 Q zb (.slice A1 (dg 18446744073709551616 (2^k*x)).length c1);have HG:zd (ij w (2^k*x) true (.returned (.tuple #[.agg #[.slice A1 (dg 18446744073709551616 (2^k*x)).length c1],.bool true])) (wr.setCell ⟨w.heap.size+1,0,none⟩ (.slice A1 (dg 18446744073709551616 (2^k*x)).length c1))):=⟨_,_,_,rfl,G.2.1,G.1,G.2.2⟩;clear G ae h1 h2 Q;obtain⟨L,hL⟩:∃L,(dg 18446744073709551616 (2^k*x)).length=L:=⟨_,rfl⟩;rw [hL] at HG⊢;clear hL;go_wp2;refine bodyPost_ret (v:=.tuple #[.agg #[.slice A1 L c1],.bool true]) (by simp [results,results146,go_sem,au]) rfl ?_;exact HG.o
theorem SS (w:World):zp w 0 none 0 0:=⟨zK.none_,qX _,zb⟩
theorem T6 (x k:Nat)(A:ze)(n c:Nat)(w:World)(hA:zp w x A n c)(hn:n<=549755813888)(hk:bitLen x<=k):
  Calls prog 149 #[.agg #[.slice A n c],.int .i64 k] w (xu w 0):=by
 have HC:=zj w (λw' hb=>VG x A n c w' (hA.below hb) zb);obtain⟨z,hz⟩:∃z,bitLen x=z:=⟨_,rfl⟩;rw [hz] at HC hk;have hd:decide ((z:Int)<=(k:Int))=true:=by simpa using hk
 clear hz hA;go_enter func149,ntmps149;go_wp2_with fail;generalize hW:(w.alloc (.cells #[.slice A n c] 48)).alloc (.cells #[.slice none 0 0] 48)=W0;obtain⟨b1,b2,b4,b5⟩:=yz w 48 48 #[.slice A n c] #[.slice none 0 0];rw [hW] at b1 b2 b4 b5;clear hW b2;refine(HC.o _ b1).mono ?_;rintro e w1 ⟨rfl,hb⟩;have hB:=zc b1 hb;have hk:=zg hb b4;have a:w1.cell? ⟨w.heap.size+1,0,none⟩=some (.slice none 0 0):=hk.cell 0;have hf1:=hk.frozen 0;have HG:zd (xu w 0 (.returned (.agg #[.slice none 0 0])) (w1.setCell ⟨w.heap.size+1,0,none⟩ (.slice none 0 0))):=⟨_,_,_,rfl,SS _,zM _ (by show _<=w.heap.size+1;omega) hB,sf.none_ _⟩;clear hB hk hb b1 b4;go_wp2;refine bodyPost_ret (v:=.agg #[.slice none 0 0]) (by simp [results,results149,go_sem,a]) rfl ?_;exact HG.o
theorem mg (x k:Nat)(A:ze)(n c:Nat)(w:World)(hA:zp w x A n c)(hn:n<=549755813888)(hk:k<bitLen x):
  Calls prog 149 #[.agg #[.slice A n c],.int .i64 k] w (xu w (x / 2^k)):=by
 obtain⟨i0,ab,ak,al,am⟩:=info_parts oS;have t:=hA.len;have X:bitLen x<=64*n:=eT _ _ (by
  have h:=wh (b:=18446744073709551616) zf x;rw [t,show(18446744073709551616:Nat)=2^64 from rfl,<-jK] at h;exact h)
 have HC:=(λw' (hb:Below w.heap.size w w')=>VG x A n c w' (hA.below hb) zb);have HA:=zj w (λw' hb=>hA.below hb);obtain⟨q,hq⟩:∃q,k / 64=q:=⟨_,rfl⟩;obtain⟨r,hr⟩:∃r,k%64=r:=⟨_,rfl⟩;have M:r<64:=zb;have hqn:q<n:=zb;obtain⟨z,hz⟩:∃z,bitLen x=z:=⟨_,rfl⟩;rw [hz] at HC hk X;have HC:=za HC;have hd:decide ((z:Int)<=(k:Int))=false:=by simp;omega
 have hzk:z<=35184372088832:=zb;have W:∀i,wd (x / 2^k) i=wd x (q+i) / 2^r+2^(64 - r)*(wd x (q+i+1)%2^r):=λi=>by rw [pX,hq,hr]
 have HW:=za W;obtain⟨N,hN⟩:∃N,n - q=N:=⟨_,rfl⟩;have C:0<N/\N<=n:=zb;obtain⟨C,hNn⟩:=C;have S:(n:Int) - (q:Int)=(N:Int):=zb;have U:IntKind.i64.wrap (N:Int)=(N:Int):=QP _ zb;obtain⟨Z,hZ⟩:∃Z,madeCells (Value.cells (.int .u64 0)) (N*i0.size)=Z:=⟨_,rfl⟩;have HZ:zd (Z.size=N):=by show _=_;rw [<-hZ,size_madeCells,al,xV]
 have af:∀W:World,(Instr.makeSlice 46 (.int .i64 (N:Int)) (.int .i64 (N:Int))).run prog W=.ok (.slice (some ⟨W.heap.size,0,none⟩) N N) (W.alloc (.cells Z 133)):=λW=>by
  rw [<-hZ];exact sx _ _ i0 _ underlying46 ab ak _ _ N N (qX _) (by rw [am];omega) zb W
 have HL:zd ((dg 18446744073709551616 (x / 2^k)).length<=N):=by
  refine mQ zf _ _ ?_;have h:=wh (b:=18446744073709551616) zf x;rw [t] at h;refine(QA (xS k)).2 ?_;rw [<-nK k,hq,hr,<-qD,<-xI,show N+q=n from by omega];exact qJ h (Nat.le_mul_of_pos_right _ (xS r))
 have hkd:decide ((k:Int)<0)=false:=zA;have I:(k:Int) / 64=(q:Int):=zb;have J:(k:Int)%64=(r:Int):=zb;have ag:(k:Int).tdiv 64=(q:Int):=by rw [Int.tdiv_eq_ediv_of_nonneg zb];exact I
 have ah:(k:Int).tmod 64=(r:Int):=by rw [XA zb];exact J
 clear hZ hA t hN hq hr hz W;go_enter func149,ntmps149;go_wp2_with fail;generalize hW:(w.alloc (.cells #[.slice A n c] 48)).alloc (.cells #[.slice none 0 0] 48)=W0;obtain⟨b1,b2,b4,b5⟩:=yz w 48 48 #[.slice A n c] #[.slice none 0 0];rw [hW] at b1 b2 b4 b5;have g1:W0.cell? ⟨w.heap.size,0,none⟩=some (.slice A n c):=b2.cell 0;clear hW b2;refine(HC.o _ b1).mono ?_;rintro e w1 ⟨rfl,hb⟩;have hB:=zc b1 hb;have d:=zg hb b4;have g3:=zv hb g1;have ai:=hb.size;clear hb g1 b1 b4;go_wp2_with fail;refine(vX x _ _ _ _).mono ?_;rintro e w2 ⟨rfl,hb⟩;have hB:=zc hB hb;have d:=zg hb d;have g1:=zv hb g3;have aj:=hb.size;have hgs:w.heap.size+2<=w2.heap.size:=zb;clear hb g3 ai aj b5;go_wp2_with fail;have D:=zh.new w2 133 Z;have hB:=xn (.cells Z 133) hB;have d:=d.alloc (.cells Z 133);have g1:=xv (.cells Z 133) g1;generalize w2.alloc (.cells Z 133)=W1 at*;generalize w2.heap.size=gs at*;clear af S U I J ag ah
 rename_i hh1 _ _ hh2
 clear hh1
 go_loopg [8,29] (N + 1) (fun g _ ix wr => ∃ (i : Nat) (cs : Array Value),i ≤ N ∧ N < g + i ∧ ix = .int .i64 i ∧ cs.size = N ∧ cs.toList.take i = zB .u64 (vN (x / 2 ^ k) i) ∧ zh wr gs 133 cs ∧
   Below w.heap.size w wr/\wr.cell? ⟨w.heap.size,0,none⟩=some (.slice A n c)/\zh wr (w.heap.size+1) 48 #[.slice none 0 0])
 case atStart=>exact⟨0,Z,zb,zb,rfl,HZ.o,rfl,D,hB,g1,d⟩
 case round=>
  clear hB g1 d D;obtain⟨i,cs,hi,hg,rfl,hsz,o,m,hB,g1,j⟩:=hrel;by_cases hlt:i<N
  ·have E:=wJ x (q+i);have V:=wJ x (q+i+1);have WX:=(λw' (h:Below w.heap.size w w')=>lF x A n c (q+i) w' (HA.o w' h));have WY:=(λw' (h:Below w.heap.size w w')=>lF x A n c (q+i+1) w' (HA.o w' h));rw [Int.natCast_add] at WX;rw [show((q+i+1:Nat):Int)=(q:Int)+(i:Int)+1 from by omega] at WY;have s:=za (HW.o i);obtain⟨a,ha⟩:∃a,wd x (q+i)=a:=⟨_,rfl⟩;obtain⟨b,hb⟩:∃a,wd x (q+i+1)=a:=⟨_,rfl⟩;rw [ha] at WX E s;rw [hb] at WY V s;have P:=za WX;have Q:=za WY;have y:=za hsz;have O:=za o;obtain⟨u,hu⟩:∃u,cs[i]?=some u:=⟨cs[i]' zb,QY zb⟩;have HU:=za hu;clear WX WY ha hb o hu hsz;have i1:(0:Int)<=(i:Int):=zb;have i2:(i:Int)<(N:Int):=zb;obtain⟨j1,j2,j3⟩:IntKind.i64.wrap ((q:Int)+(i:Int))=(q:Int)+(i:Int)/\IntKind.i64.wrap ((q:Int)+(i:Int)+1)=(q:Int)+(i:Int)+1/\IntKind.i64.wrap (64 - (r:Int))=64 - (r:Int):=⟨QP _ zb,QP _ zb,QP _ zb⟩;go_wp2_with fail;have F:=hB.drew;have H:=j.drew;have Y:=m.drew
   go_region_held3 (fun w' => Below w.heap.size w w' ∧ w'.cell? ⟨w.heap.size,0,none⟩ = some (.slice A n c) ∧ zh w' (w.heap.size + 1) 48 #[.slice none 0 0])
    (first|(exact⟨F,g1,H⟩)|(go_split_ands;(repeat' apply And.intro);all_goals (first|exact zm|exact zc zm hb|exact zv hb zm|exact zg hb zm|exact zM _ (by simp;omega) zm|exact yn _ (by simp;omega) zm|exact zh.far zm (by simp;omega) _)))
    (first
      |(go_at_call 126;with_reducible refine(P.o _ (by first|exact zm|exact YI zm)).mono ?_;rintro e w' ⟨rfl,hb⟩;have d:zh w' gs 133 cs:=zg hb zm;have q1:=(d.cell i).trans HU.o;have q2:=d.frozen i)
      |(go_at_call 126;with_reducible refine(Q.o _ (by first|exact zm|exact YI zm)).mono ?_;rintro e w' ⟨rfl,hb⟩;have d:zh w' gs 133 cs:=zg hb zm;have q1:=(d.cell i).trans HU.o;have q2:=d.frozen i))
   rename_i hH
   obtain⟨R,g3,ad⟩:=hH;have ae:=d.set_ i (.int .u64 (bits .or .u64 ((a:Int) / 2^r) (IntKind.u64.wrap ((b:Int)*2^(64 - r)))));have HV:zd ((cs.setIfInBounds i (.int .u64 (bits .or .u64 ((a:Int) / 2^r) (IntKind.u64.wrap ((b:Int)*2^(64 - r)))))).toList.take (i+1)=zB .u64 (vN (x / 2^k) (i+1))):=by
    show _=_;rw [Zt _ _ _ (by have:=y.o;omega),O.o,bQ,gU,s.o,VN E M]
   clear hb d q1 q2 F H Y hB g1 j m j1 j2 j3;go_wp2;go_roundg (N - i)
   case measure=>omega
   case rel=>exact⟨i+1,_,zb,zb,by go_num,by simpa using y.o,HV.o,ae,R,g3,ad⟩
  ·have ac:i=N:=zb;subst ac;have e:=Wa HL.o;have T:=fq (some ⟨gs,0,none⟩) i i wr.heap.size (vN (x / 2^k) i) wr (ia m hsz o (lA _ _)) (Wb _ _) (qX _) zb zb;rw [e] at T;have HT:=za T;have aa:wr.cell? ⟨w.heap.size+1,0,none⟩=some (.slice none 0 0):=j.cell 0;have hf1:=j.frozen 0;clear T m hsz o e j g1;go_wp2_with fail;refine HT.o.mono ?_;rintro e w2 ⟨A1,c1,rfl,K,h1,h2,B,rfl⟩;have G:=eR hB (p:=w.heap.size+1) (gs:=gs) zb zb K h1 h2 B zb (.slice A1 (dg 18446744073709551616 (x / 2^k)).length c1);have HG:zd (xu w (x / 2^k) (.returned (.agg #[.slice A1 (dg 18446744073709551616 (x / 2^k)).length c1])) (wr.setCell ⟨w.heap.size+1,0,none⟩ (.slice A1 (dg 18446744073709551616 (x / 2^k)).length c1))):=⟨_,_,_,rfl,G.2.1,G.1,G.2.2⟩;clear G K h1 h2 B;obtain⟨L,hL⟩:∃L,(dg 18446744073709551616 (x / 2^k)).length=L:=⟨_,rfl⟩;rw [hL] at HG⊢;clear hL;go_wp2;refine bodyPost_ret (v:=.agg #[.slice A1 L c1]) (by simp [results,results149,go_sem,aa]) rfl ?_;exact HG.o
theorem RE (x:Nat):x<2^bitLen x:=by
 unfold bitLen
 split
 ·rename_i h;subst h;decide
 ·exact Nat.lt_log2_self
theorem Y2 (x k:Nat)(A:ze)(n c:Nat)(w:World)(hA:zp w x A n c)(hn:n<=549755813888):
  Calls prog 149 #[.agg #[.slice A n c],.int .i64 k] w (xu w (x / 2^k)):=by
 by_cases h:bitLen x<=k
 ·rw [xE (qJ (RE x) (qR zf h))];exact T6 x k A n c w hA hn h
 ·exact mg x k A n c w hA hn zb
theorem Sz.shl' {K k M:Nat}(h:Sz K x)(hk:k<=64*M):Sz (K+M) (2^k*x):=by
 unfold Sz at*;have h1:2^k<=18446744073709551616^M:=by
  rw [show(18446744073709551616:Nat)=2^64 from rfl,<-jK];exact qR zf hk
 rw [xI,QQ (18446744073709551616^K)];exact QN (qS x h1) (Nat.mul_lt_mul_of_pos_left h (yX zf))
