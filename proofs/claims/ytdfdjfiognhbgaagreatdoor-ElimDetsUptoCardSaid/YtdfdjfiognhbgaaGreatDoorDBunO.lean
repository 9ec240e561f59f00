/- What this claim leans on. -/
import Derived.Test.YtdfdjfiognhbgaaGreatDoorDBunM
import Derived.BigRegion
import Derived.IntWalk
set_option linter.unusedVariables false
set_option linter.unusedSimpArgs false
namespace Go.Proofs.YtdfdjfiognhbgaaGreatDoor
open Go Go.RowKit Go.Proofs.Tryz
set_option maxHeartbeats 16000000
set_option maxRecDepth 100000
variable {xs:List Nat}{vs:List Value}{a b c d g i m n x:Nat}{t:TypeId}{v v':Value}{w w':World}{A B:ze}
theorem fS (x:Nat)(A:ze)(n c:Nat)(w:World)(h:zn w x A n c)(hn:n<=1099511627776):
  Calls prog 101 #[.agg #[.slice A n c]] w (fs w n (zq .u64 (dg 18446744073709551616 x))):=by
 obtain⟨hr,h1,h2⟩:=h;have a:=hr.len_;have C:∀o,Calls prog 147 #[.slice A n c] (w.alloc o) (fs w n (zq .u64 (dg 18446744073709551616 x))):=λo=>by
  have i:=((hr.alloc (qY _) o).more (B':=(w.alloc o).heap.size) zE);rcases A with _|ad
  ·have d:n=0:=by
    rcases QT n with h|h
    ·exact h
    ·obtain⟨ad,e,_⟩:=hr.2 h;cases e
   subst d;have hl:zq .u64 (dg 18446744073709551616 x)=[]:=by rw [QY a];rfl
   rw [hl];exact(TH c _).mono λe w' ⟨he,hw⟩=>⟨_,he,xK _ _ _ _,by rw [<-hw];exact(qZ _ w).alloc (qY _) o⟩
  ·refine(Yk ad n c _ (w.alloc o) i hn).mono λe w' ⟨v,he,ho,hb⟩=>?_;refine⟨v,he,⟨ho.1,?_⟩,((qZ _ w).alloc (qY _) o).trans (hb.mono zE)⟩;rcases ho.2 with h|⟨g,cap,cur,e1,e2,e3⟩
   ·exact .inl h
   ·exact .inr ⟨g,cap,cur,e1,qL zE e2,e3⟩
 obtain⟨L,hL⟩:∃L,zq .u64 (dg 18446744073709551616 x)=L:=⟨_,rfl⟩;rw [hL] at C⊢;have HC:=za C;clear C hr a hL;go_enter func101,ntmps101;go_wp2_with fail;refine(HC.o _).mono ?_;intro e w1 hg;have G:=za hg;obtain⟨v,rfl,_,_⟩:=hg;go_wp2;go_ret;exact G.o
def zF (w:World)(t:TypeId)(g cap n:Nat)(L:List Nat):Prop:=
 ∃cur,zh w g t cur/\n<=cap/\cap<=maxLen/\cur.size=cap/\L.length=n/\cur.toList.take n=zq .u64 L
section
variable {w w':World}{t:TypeId}{g cap n:Nat}{L:List Nat}
theorem zF.len (h:zF w t g cap n L):L.length=n:=by obtain⟨_,_,_,_,_,h,_⟩:=h;exact h
theorem zF.room (h:zF w t g cap n L):n<=cap/\cap<=maxLen:=by obtain⟨_,_,h,h2,_⟩:=h;exact⟨h,h2⟩
theorem zF.lt (h:zF w t g cap n L):g<w.heap.size:=by obtain⟨_,h,_⟩:=h;exact h.lt
theorem mQ (k:IntKind)(l:List Nat)(i:Nat)(h:i<l.length):(zq k l)[i]?=some (.int k (l.getD i 0:Nat)):=by
 simp [zq,List.getD,qX h]
theorem zF.cell (h:zF w t g cap n L)(k:Nat)(hk:k<n):w.cell? ⟨g,k,none⟩=some (.int .u64 (L.getD k 0:Nat)):=by
 obtain⟨cur,hb,h1,h2,h3,h4,h5⟩:=h;rw [hb.cell k,<-QM,<-mQ .u64 L k zb,<-h5,XO,if_pos hk]
theorem zF.frozen (h:zF w t g cap n L)(k:Nat):w.frozen? ⟨g,k,none⟩=false:=by
 obtain⟨cur,hb,_⟩:=h;exact hb.frozen k
theorem zF.set_ (h:zF w t g cap n L)(k d:Nat)(hk:k<n):zF (w.setCell ⟨g,k,none⟩ (.int .u64 (d:Int))) t g cap n (L.set k d):=by
 obtain⟨cur,hb,h1,h2,h3,h4,h5⟩:=h;refine⟨_,hb.set_ k _,h1,h2,by simpa using h3,by simpa using h4,?_⟩;rw [xH,jZ,h5];unfold zq;rw [List.map_set]
theorem zF.below {B:Nat}(h:zF w t g cap n L)(hb:Below B w w')(hg:g<B):zF w' t g cap n L:=by
 obtain⟨a,h0,h1⟩:=h;exact⟨a,h0.below hb hg,h1⟩
theorem zF.keep (h:zF w t g cap n L)(hb:Below w.heap.size w w'):zF w' t g cap n L:=h.below hb h.lt
theorem zF.drew (h:zF w t g cap n L):zF w.drew t g cap n L:=h
theorem zF.alloc (h:zF w t g cap n L)(o:Obj):zF (w.alloc o) t g cap n L:=by
 obtain⟨a,h0,h1⟩:=h;exact⟨a,h0.alloc o,h1⟩
theorem zF.far (h:zF w t g cap n L){p:Addr}(hp:g≠p.block)(u:Value):zF (w.setCell p u) t g cap n L:=by
 obtain⟨a,h0,h1⟩:=h;exact⟨a,h0.far hp u,h1⟩
theorem zF.reads (h:zF w t g cap n L):zH w w.heap.size 1 (some ⟨g,0,none⟩) n (zq .u64 L):=by
 have hl:=h.lt;have hc:=h.cell;have hn:=h.len;refine⟨by rw [wt];omega,λ_=>⟨_,rfl,hl,λj u hu=>?_⟩⟩;have hj:j<L.length:=by
  rcases xY j L.length with hj|hj
  ·exact hj
  ·rw [QG (by rw [wt];exact hj)] at hu;cases hu
 have e:(⟨g,0,none⟩:Addr).add j=⟨g,j,none⟩:=by unfold Addr.add;split<;>simp_all
 rw [e,hc j zb,<-mQ .u64 L j hj,hu]
theorem zF.own (h:zF w t g cap n L){a:Nat}(hb:a<=g):w.ownsRow a t 1 (.slice (some ⟨g,0,none⟩) n cap) n (zq .u64 L):=by
 obtain⟨c,h0,h1,h2,h3,h4,h5⟩:=h;exact⟨by rw [wt];omega,.inr ⟨g,cap,c,rfl,hb,h0,h1,h2,zb,by rw [xC];exact h5⟩⟩
theorem zF.made (w:World)(t:TypeId)(N:Nat)(hN:N<=maxLen):zF (w.alloc (.cells (madeCells (Value.cells (.int .u64 0)) N) t)) t w.heap.size N N (List.replicate N 0):=by
 refine⟨_,zh.new w t _,qY _,hN,size_madeCells _ _,zE,?_⟩;show(madeCells #[Value.int .u64 0] N).toList.take N=_;rw [toList_madeCells_one,qU zE];simp [zq]
theorem zF.of_own {l:List Nat}(h:w.ownsRow i t 1 v n (zq .u64 l))(hn:0<n):∃g cap,v=.slice (some ⟨g,0,none⟩) n cap/\i<=g/\zF w t g cap n l:=by
 obtain⟨h1,h2⟩:=h;rcases h2 with⟨_,h⟩|⟨g,cap,cur,e,hb,hk,a,b,c,d⟩
 ·omega
 ·refine⟨g,cap,e,hb,cur,hk,a,b,zb,by rw [wt] at h1;omega,?_⟩;rw [xC] at d;exact d
end
theorem zH.of_grown_own {xs:List Value}(h:w.ownsRow i t 1 v n xs):∃A c,v=.slice A n c/\n<=c/\c<=maxLen/\zH w w.heap.size 1 A n xs:=by
 have h0:=h;obtain⟨h1,h2⟩:=h;rcases h2 with⟨e,hn⟩|⟨g,cap,cur,e,hb,hk,a,b,c,d⟩
 ·subst hn;exact⟨none,0,e,qY _,by unfold maxLen;omega,by subst e;exact zH.of_own h0⟩
 ·exact⟨_,_,e,a,b,by subst e;exact zH.of_own h0⟩
structure dK (w:World)(A:ze)(n c:Nat)(xs:List Nat):Prop where
 len:xs.length=n
 fits:n<=c
 most:c<=9223372036854775807
 num:∀i,i<n->∃(ad:Addr) (B:ze) (m d:Nat),A=some ad/\ad.block<w.heap.size/\w.cell? (ad.add i)=some (.slice B m d)/\zn w (xs.getD i 0) B m d
theorem dK.below (h:dK w A n c xs)(hb:Below w.heap.size w w'):dK w' A n c xs:=
 ⟨h.len,h.fits,h.most,λi hi=>by
  obtain⟨ad,B,m,d,e,h1,h2,h3⟩:=h.num i hi;exact⟨ad,B,m,d,e,qJ h1 hb.size,zt hb h2,h3.below hb⟩⟩
theorem ep (h:zn w x A n c){p:Addr}(hp:0<n->∀ad,A=some ad->ad.block≠p.block)(u:Value):zn (w.setCell p u) x A n c:=by
 by_cases hn:0<n
 ·exact ke h (hp hn) u
 ·exact⟨⟨h.1.1,λh0=>absurd h0 hn⟩,h.2⟩
theorem Yx (h:zn w x B m d){row:Option Nat}(hg:w.grownBy w' row)(hr:0<m->∀ad,B=some ad->some ad.block≠row):zn w' x B m d:=by
 obtain⟨a,h1,h2⟩:=h;refine⟨⟨a.1,λhn=>?_⟩,h1,h2⟩;obtain⟨ad,e,hb,hc⟩:=a.2 hn;refine⟨ad,e,qJ hb hg.size,λj u hu=>?_⟩;exact(World.cell?_of_block (hg.block _ (by rw [y8];exact hb) (by rw [y8];exact hr hn ad e))).trans (hc j u hu)
theorem SC {a:ze}(h:zn w x A n c)(hk:zh w g t #[.slice a b d]):0<n->∀ad,A=some ad->ad.block≠g:=λhn ad e hg=>by
 obtain⟨ad',e',_,hc⟩:=h.1.2 hn;rw [e] at e';injection e' with e';subst e';have hl:=h.len;have h0:=hc 0 (.int .u64 ((dg 18446744073709551616 x).getD 0 0:Nat)) (mQ .u64 _ 0 zb);have e0:ad.add 0=ad:=by unfold Addr.add;rw [if_pos rfl]
 rw [e0] at h0;obtain⟨bk,off,pr⟩:=ad;simp only at hg;subst hg;unfold zh at hk;cases pr with
 |none=>
   rw [show w.cell? ⟨bk,off,none⟩=#[Value.slice a b d][off]? from cell_of_row w bk off _ t (0,0) hk] at h0
   match off,h0 with
   |0,h0=>simp at h0
   |o+1,h0=>simp at h0
 |some q=>simp [World.cell?,hk] at h0
theorem cO {a:ze}(h:zn w x A n c)(hk:zh w g t #[.slice a b d])(u:Value):zn (w.setCell ⟨g,0,none⟩ u) x A n c:=
 ep h (SC h hk) u
theorem wf {a:ze}(h:zn w x A n c)(hk:xg w g (.slice a b d))(u:Value):zn (w.setCell ⟨g,0,none⟩ u) x A n c:=by
 obtain⟨t,hk⟩:=hk;exact cO h hk u
def fK (base:Nat)(v:Value)(B:ze)(m:Nat):Prop:=0<m->∀ad,B=some ad->base<=ad.block/\v.ownBlock≠some ad.block
theorem fK.grow (h:fK a v B m)(hx:zn w x B m d)(hg:w.grownBy w' v.ownBlock)(ha:v'.ownBlock=v.ownBlock\/v'.ownBlock=some w.heap.size):zn w' x B m d/\fK a v' B m:=by
 refine⟨Yx hx hg (λhm ad e=>(h hm ad e).2.symm),λhm ad e=>⟨(h hm ad e).1,?_⟩⟩;rcases ha with ha|ha
 ·rw [ha];exact(h hm ad e).2
 ·rw [ha];obtain⟨ad',e',hlt,_⟩:=hx.1.2 hm;rw [e] at e';injection e' with e';subst e';intro hh;injection hh with hh;omega
structure uR (w:World)(base:Nat)(v:Value)(xs:List Nat)(vs:List Value):Prop where
 own:w.ownsRow base 37 1 v xs.length vs
 num:∀i,i<xs.length->∃(B:ze) (m d:Nat),vs[i]?=some (.slice B m d)/\zn w (xs.getD i 0) B m d/\fK base v B m
theorem uR.nil (w:World)(a:Nat):uR w a (.slice none 0 0) [] []:=⟨xK _ _ _ _,λi hi=>by simp at hi⟩
theorem uR.len (h:uR w a v xs vs):vs.length=xs.length:=by have:=h.own.1;omega
theorem uR.shape (h:uR w a v xs vs):∃A c,v=.slice A xs.length c/\dK w A xs.length c xs:=by
 obtain⟨A,c,e,h1,h2,h3⟩:=zH.of_grown_own h.own;refine⟨A,c,e,rfl,h1,by unfold maxLen at h2;omega,λi hi=>?_⟩;obtain⟨B,m,d,hv,hw,_⟩:=h.num i hi;obtain⟨ad,ea,hb,hc⟩:=h3.2 zb;exact⟨ad,B,m,d,ea,hb,hc i _ hv,hw⟩
theorem uR.below (h:uR w a v xs vs)(hb:Below w.heap.size w w'):uR w' a v xs vs:=by
 refine⟨⟨h.own.1,?_⟩,λi hi=>?_⟩
 ·rcases h.own.2 with h1|⟨g,cap,cur,e1,e2,e3,e4⟩
  ·exact .inl h1
  ·exact .inr ⟨g,cap,cur,e1,e2,(hb.block g (zh.lt (t:=37) (cs:=cur) e3)).trans e3,e4⟩
 ·obtain⟨B,m,d,hv,hw,hf⟩:=h.num i hi;exact⟨B,m,d,hv,hw.below hb,hf⟩
theorem uR.set_ (h:uR w a v xs vs){p:Addr}(hp:p.block<a)(u:Value):uR (w.setCell p u) a v xs vs:=by
 refine⟨⟨h.own.1,?_⟩,λi hi=>?_⟩
 ·rcases h.own.2 with h1|⟨g,cap,cur,e1,e2,e3,e4⟩
  ·exact .inl h1
  ·exact .inr ⟨g,cap,cur,e1,e2,zh.far (t:=37) (cs:=cur) e3 zb u,e4⟩
 ·obtain⟨B,m,d,hv,hw,hf⟩:=h.num i hi;exact⟨B,m,d,hv,ep hw (λhm ad e=>by have:=(hf hm ad e).1;omega) u,hf⟩
theorem uR.grow {n:Nat}(h:uR w a v xs vs)(hx:zn w x B m d)(hB:fK a v B m)
  (ho:w'.ownsRow a 37 1 v' n (vs++[.slice B m d])) (hn:n=xs.length+1) (hg:w.grownBy w' v.ownBlock) (ha:v'.ownBlock=v.ownBlock\/v'.ownBlock=some w.heap.size):uR w' a v' (xs++[x]) (vs++[.slice B m d]):=by
 have hl:=h.len;refine⟨by rw [QV,yM,<-hn];exact ho,λi hi=>?_⟩;rw [QV,yM] at hi;by_cases hlt:i<xs.length
 ·obtain⟨C,k,e,hv,hw,hf⟩:=h.num i hlt;obtain⟨h1,h2⟩:=hf.grow hw hg ha;refine⟨C,k,e,by rw [QR zb];exact hv,?_,h2⟩;rw [qQ,QR hlt,<-qQ];exact h1
 ·have c:i=xs.length:=zb;subst c;obtain⟨h1,h2⟩:=hB.grow hx hg ha;refine⟨B,m,d,by rw [QK zb,hl];simp,?_,h2⟩;rw [qQ,QK (qY _)];simpa using h1
theorem Xq (p q r s:Nat)(hp:p<18446744073709551616)(hq:q<18446744073709551616)(hr:r<18446744073709551616)(hs:s<18446744073709551616)(w:World):
  Calls prog 165 #[.int .u64 p,.int .u64 q,.int .u64 r,.int .u64 s] w λe w'=>e=.returned (.tuple #[.int .u64 (((p*q+r+s) / 18446744073709551616:Nat):Int),.int .u64 (((p*q+r+s)%18446744073709551616:Nat):Int)])/\w=w':=by
 have h:=SQ p q r s ⟨zb,zb⟩ ⟨zb,zb⟩ ⟨zb,zb⟩ ⟨zb,zb⟩ w;rw [(rQ p q r s).1,(rQ p q r s).2] at h;exact h
theorem eR (x y:Nat)(A D:ze)(n m c d:Nat)(w:World)(hA:zn w x A n c)(hD:zn w y D m d)(hn:n<=274877906944)(hm:m<=274877906944):
  Calls prog 134 #[.agg #[.slice A n c],.agg #[.slice D m d]] w (xp w (x*y)):=by
 obtain⟨i0,ae,ai,aj,ak⟩:=info_parts ol;have af:=za hA.len;have U:=za hD.len;have HA:=zj w (λw' hb=>hA.below hb);have HW:=(λw' (hb:Below w.heap.size w w')=>lY y D m d w' (hD.below hb) zb);unfold kv at HW;rw [U.o] at HW;have X:=za HW;obtain⟨N,hN⟩:∃N,n+m=N:=⟨_,rfl⟩;have HN:=za hN;have hN1:N<=549755813888:=zb;obtain⟨Z,hZ⟩:∃Z,madeCells (Value.cells (.int .u64 0)) N=Z:=⟨_,rfl⟩;have ag:∀W:World,(Instr.makeSlice 35 (.int .i64 ((n:Int)+(m:Int))) (.int .i64 ((n:Int)+(m:Int)))).run prog W=.ok (.slice (some ⟨W.heap.size,0,none⟩) N N) (W.alloc (.cells Z 132)):=λW=>by
  have h:=tH _ _ i0 _ underlying35 ae ai .i64 .i64 N N (qY _) (by rw [ak];omega) zb W;rw [aj,xC,hZ] at h;rw [show(n:Int)+(m:Int)=(N:Int) from by omega];exact h
 have HZ:=za hZ;clear hZ hA hD hN HW;go_enter func134,ntmps134;go_wp2_with fail;generalize hW:((w.alloc (.cells #[.slice A n c] 37)).alloc (.cells #[.slice D m d] 37)).alloc (.cells #[.slice none 0 0] 37)=W0;obtain⟨b1,b2,b3,b4,b5⟩:=yn w 37 37 37 #[.slice A n c] #[.slice D m d] #[.slice none 0 0];rw [hW] at b1 b2 b3 b4 b5;have g1:W0.cell? ⟨w.heap.size,0,none⟩=some (.slice A n c):=b2.cell 0;clear hW b2 b3;refine(X.o _ b1).mono ?_;rintro e w1 ⟨A1,c1,rfl,i,_,⟨_,ac⟩,hb⟩;have hB:=zc b1 hb;have g1:=zt hb g1;have hk:=zf hb b4;have I:w.heap.size+3<=w1.heap.size:=qL b5 hb.size;clear hb b1 b4 b5 ac;go_wp2_with fail;refine(vN x _ _ _ _).mono ?_;rintro e w2 ⟨rfl,hb⟩;have hB:=zc hB hb;have g1:=zt hb g1;have hk:=zf hb hk;have i:=(i.below hb).more hb.size;have I:w.heap.size+3<=w2.heap.size:=qL I hb.size;have Y:=λo=>xt o g1;clear hb;go_wp2_with fail;have hR:zF (w2.alloc (.cells Z 132)) 132 w2.heap.size N N (List.replicate N 0):=by
  have h:=zF.made w2 132 N (by unfold maxLen;omega);rw [HZ.o] at h;exact h
 obtain⟨gs,G⟩:∃g,w2.heap.size=g:=⟨_,rfl⟩;have hB:=xk (.cells Z 132) hB;have g1:=xt (.cells Z 132) g1;have hk:=hk.alloc (.cells Z 132);have i:=(i.alloc (qY _) (.cells Z 132)).more (B':=gs) zb;rw [G] at hR I;generalize w2.alloc (.cells Z 132)=W3 at*;rw [G];clear G ag Y;refine(vN x _ _ _ _).mono ?_;rintro e w4 ⟨rfl,hb⟩;have hB:=zc hB hb;have g1:=zt hb g1;have hk:=zf hb hk;have i:=i.below (hb.mono (QD hR.lt));have hR:=hR.keep hb;have hI:=za (oq.start x y m N);clear hb;go_wp2_with fail
 go_loopg [22] (n+1) (λg ix wr=>∃(k:Nat) (L:List Nat),k<=n/\n<g+k/\ix=.int .i64 k/\oq x y k m N L/\zF wr 132 gs N N L/\Below w.heap.size w wr/\wr.cell? ⟨w.heap.size,0,none⟩=some (.slice A n c)/\zh wr (w.heap.size+1+1) 37 #[.slice none 0 0]/\zH wr gs 1 A1 m (zq .u64 (dg 18446744073709551616 y)))
 case atStart=>exact⟨0,_,qN _,zb,rfl,hI.o,hR,hB,g1,hk,i⟩
 case round=>
  clear hB g1 hk i hR hI;obtain⟨k,L0,hkn,hg,rfl,hM,hR,hB,g1,hk,i⟩:=hrel;obtain⟨wo,ah⟩:∃wo,wo=wr:=⟨_,rfl⟩;subst ah;by_cases hlt:k<n
  ·have WX:=zj w (λw' h=>ki x A n c k w' (HA.o w' h));have ha:=wF x k;have F:=za (vG.start y (wd x k) k hM.len hM.dgs);have E:=za (λL c (h:vG L0 y (wd x k) k m N L c)=>oq.step hM h (by have:=U.o;omega) (by have:=HN.o;omega));obtain⟨a,P⟩:∃a,wd x k=a:=⟨_,rfl⟩;rw [P] at WX ha F E;clear P hM;go_wp2_with fail;refine(WX.o _ hB).mono ?_;rintro e w5 ⟨rfl,hb⟩;have hB:=zc hB hb;have g1:=zt hb g1;have hk:=zf hb hk;have i:=i.below (hb.mono (QD hR.lt));have hR:=hR.keep hb;clear hb;go_wp2_with fail
   go_loopg [9,30] (m+1) (λg cy jx wr=>∃(j cc:Nat) (L:List Nat),j<=m/\m<g+j/\jx=.int .i64 j/\cy=.int .u64 cc/\vG L0 y a k j N L cc/\zF wr 132 gs N N L/\Below w.heap.size w wr/\wr.cell? ⟨w.heap.size,0,none⟩=some (.slice A n c)/\zh wr (w.heap.size+1+1) 37 #[.slice none 0 0]/\zH wr gs 1 A1 m (zq .u64 (dg 18446744073709551616 y)))
   case atStart=>exact⟨0,0,L0,qN _,zb,rfl,rfl,F.o,hR,hB,g1,hk,i⟩
   case round=>
    clear hB g1 hk i hR F;obtain⟨j,cc,L,hjm,hg2,rfl,rfl,hI,hR,hB,g1,hk,i⟩:=hrel;by_cases hjl:j<m
    ·have t:=HN.o;obtain⟨ad,rfl,hadb,h1⟩:=wB i (k:=j) hjl;rw [oH] at h1;have hp:=hI.dgs.getD zg (k+j);have h2:=hR.cell (k+j) zb;have h3:=hR.frozen (k+j);have Q:=wF y j;have ab:=hI.carry;have B:=hI.step (s:=wd y j*a+L.getD (k+j) 0+cc) ha zb rfl;obtain⟨b,R⟩:∃b,wd y j=b:=⟨_,rfl⟩;obtain⟨p,V⟩:∃b,L.getD (k+j) 0=b:=⟨_,rfl⟩;rw [R] at h1 Q B;rw [V] at h2 hp B;have J:=za (λw'=>Xq b a p cc Q ha hp ab w');obtain⟨s1,e1⟩:∃s1,(b*a+p+cc)%18446744073709551616=s1:=⟨_,rfl⟩;obtain⟨s2,e2⟩:∃s2,(b*a+p+cc) / 18446744073709551616=s2:=⟨_,rfl⟩;rw [e1,e2] at J B;have M:=za B;have z:=za (hR.set_ (k+j) s1 zb);obtain⟨q,hq⟩:∃q,k+j=q:=⟨_,rfl⟩;rw [hq] at h2 h3 M z;have i1:(0:Int)<=(k:Int)+(j:Int):=zb;have i2:(k:Int)+(j:Int)<(N:Int):=zb;have i3:((k:Int)+(j:Int)).toNat=q:=zb;have C:=λu=>zz (p:=⟨gs,q,none⟩) u (by show w.heap.size<=gs;omega) hB;have gS:=λu=>zR (p:=⟨w.heap.size,0,none⟩) (q:=⟨gs,q,none⟩) u (by show w.heap.size≠gs;omega) g1;have kS:=λu=>hk.far (p:=⟨gs,q,none⟩) (by show w.heap.size+1+1≠gs;omega) u;clear B R V e1 e2 hI hq t;go_wp2_with fail;refine(J.o _).mono ?_;rintro e w' ⟨rfl,rfl⟩;go_wp2;go_roundg (m - j)
     case measure=>omega
     case rel=>exact⟨j+1,s2,_,zb,zb,by go_num,rfl,M.o,z.o,C _,gS _,kS _,i.setCell (qY _) _⟩
    ·have S:j=m:=zb;subst S;have t:=HN.o;have h3:=hR.frozen (k+j);have K:=za (E.o L cc hI);have z:=za (hR.set_ (k+j) cc zb);obtain⟨u,hu⟩:∃u,wr.cell? ⟨gs,k+j,none⟩=some u:=⟨_,hR.cell (k+j) zb⟩;obtain⟨q,hq⟩:∃q,k+j=q:=⟨_,rfl⟩;rw [hq] at h3 K z hu;have i1:(0:Int)<=(k:Int)+(j:Int):=zb;have i2:(k:Int)+(j:Int)<(N:Int):=zb;have i3:((k:Int)+(j:Int)).toNat=q:=zb;have C:=λu=>zz (p:=⟨gs,q,none⟩) u (by show w.heap.size<=gs;omega) hB;have gS:=λu=>zR (p:=⟨w.heap.size,0,none⟩) (q:=⟨gs,q,none⟩) u (by show w.heap.size≠gs;omega) g1;have kS:=λu=>hk.far (p:=⟨gs,q,none⟩) (by show w.heap.size+1+1≠gs;omega) u;clear hI hq t E;go_wp2;go_roundg (n - k)
     case measure=>omega
     case rel=>exact⟨k+1,_,zb,zb,by go_num,K.o,z.o,C _,gS _,kS _,i.setCell (qY _) _⟩
  ·have T:k=n:=zb;subst T;have t:=HN.o;have e:=oq.done (L:=L0) (by rw [t];exact hM) (by have:=af.o;omega);have O:=uS (some ⟨gs,0,none⟩) N N L0 wo hR.reads hM.dgs (qY _) zb zb;rw [e] at O;have HO:=za O;clear O e t hM;go_wp2_with fail;refine HO.o.mono ?_;rintro e w' ⟨A2,n2,c2,rfl,hw,hb,hf⟩;have H:=zf hb hk;have aa:w'.cell? ⟨w.heap.size+1+1,0,none⟩=some (.slice none 0 0):=H.cell 0;have hf1:=H.frozen 0;have hsz:=hR.lt;have HG : zd (xp w (x * y) (.returned (.agg #[.slice A2 n2 c2])) (w'.setCell ⟨w.heap.size + 1 + 1,0,none⟩ (.slice A2 n2 c2))) :=
    eQ hw (zc hB hb) (by show _<=_;simp;omega) (λad e=>by have:=hf ad e;show ad.block≠_;simp;omega) (λad e=>by have:=hf ad e;omega) _
   clear hb hw hf H hsz hk hB g1 i hR;go_wp2;refine bodyPost_ret (v:=.agg #[.slice A2 n2 c2]) (by simp [results,results134,go_sem,aa]) rfl ?_;exact HG.o
theorem nO (x:Nat):x<2^bitLen x:=by
 unfold bitLen
 split
 ·rename_i h;subst h;decide
 ·exact Nat.lt_log2_self
theorem pq (k j:Nat):k / 2^j=k / 2^(j+1)+k / 2^(j+1)+k / 2^j%2:=by
 rw [qP,<-xD];omega
theorem US (x k:Nat)(A:ze)(n c:Nat)(w:World)(hA:zn w x A n c)(hn:n<=549755813888)(hk:k<=65536):
  Calls prog 186 #[.agg #[.slice A n c],.int .i64 k] w (iL w (2^k*x) true):=by
 obtain⟨i0,av,a3,a4,a5⟩:=info_parts ol;have aa:=hA.len;have ak:=za aa;have HA:=zj w (λw' hb=>hA.below hb);have HK:=nJ k;obtain⟨q,hq⟩:∃q,k / 64=q:=⟨_,rfl⟩;obtain⟨r,hr⟩:∃r,k%64=r:=⟨_,rfl⟩;rw [hq,hr] at HK;have aj:=za HK;have J:r<64:=zb;have hq1:q<=1024:=zb;obtain⟨N,hN⟩:∃N,q+n+1=N:=⟨_,rfl⟩;have hN0:N<=549755814913:=zb;have ap:(q:Int)+(n:Int)+1=(N:Int):=zb;have aq:IntKind.i64.wrap (N:Int)=(N:Int):=QO _ zb;have M:=za hN;obtain⟨Z,hZ⟩:∃Z,madeCells (Value.cells (.int .u64 0)) (N*i0.size)=Z:=⟨_,rfl⟩;have HZ:zd (Z.toList=zq .u64 (List.replicate N 0)):=by
  show _=_;rw [<-hZ,a4,xC];exact(toList_madeCells_one _ _).trans (by simp [zq])
 have az:∀W:World,(Instr.makeSlice 35 (.int .i64 (N:Int)) (.int .i64 (N:Int))).run prog W=.ok (.slice (some ⟨W.heap.size,0,none⟩) N N) (W.alloc (.cells Z 132)):=λW=>by
  rw [<-hZ];exact tH _ _ i0 _ underlying35 av a3 _ _ N N (qY _) (by rw [a5];omega) zb W
 have hkd:decide ((k:Int)<0)=false:=zE;have hkd2:decide ((65536:Int)<(k:Int))=false:=by simp;omega
 have hkd3:decide ((k:Int)>65536)=false:=by simp;omega
 have ab:(k:Int) / 64=(q:Int):=zb;have ac:(k:Int)%64=(r:Int):=zb;have a0:(k:Int).tdiv 64=(q:Int):=by rw [Int.tdiv_eq_ediv_of_nonneg zb];exact ab
 have a1:(k:Int).tmod 64=(r:Int):=by rw [xL zb];exact ac
 clear hZ hA aa hN hq hr HK;go_enter func186,ntmps186;go_wp2_with fail;generalize hW:(w.alloc (.cells #[.slice A n c] 37)).alloc (.cells #[.slice none 0 0] 37)=W0;obtain⟨b1,b2,b4,b5⟩:=zX w 37 37 #[.slice A n c] #[.slice none 0 0];rw [hW] at b1 b2 b4 b5;have g1:W0.cell? ⟨w.heap.size,0,none⟩=some (.slice A n c):=b2.cell 0;clear hW b2;refine(vN x _ _ _ _).mono ?_;rintro e w2 ⟨rfl,hb⟩;have hB:=zc b1 hb;have H:=zf hb b4;have g1:=zt hb g1;have a2:=hb.size;have hgs:w.heap.size+2<=w2.heap.size:=zb;clear hb a2 b1 b4 b5;have ga:∀o,(w2.alloc o).cell? ⟨w.heap.size,0,none⟩=some (.slice A n c):=λo=>xt o g1;go_wp2_with fail;clear ga;have S:=zh.new w2 132 Z;have hB:=xk (.cells Z 132) hB;have H:=H.alloc (.cells Z 132);have g1:=xt (.cells Z 132) g1;generalize w2.alloc (.cells Z 132)=W1 at*;generalize w2.heap.size=gs at*;clear az ap aq ab ac a0 a1;have am:0<2^r:=QW r
 go_loopg [9,10,31] (n + 1) (fun g _ _ ix wr => ∃ (i cc : Nat) (cs : Array Value) (out : List Nat),i ≤ n ∧ n < g + i ∧ ix = .int .i64 i ∧ zd (lk x (2 ^ r) i out cc) ∧ zd (cs.toList = zq .u64 (List.replicate q 0 ++ out) ++ .int .u64 cc :: zq .u64 (List.replicate (n - i) 0)) ∧ zh wr gs 132 cs ∧
   Below w.heap.size w wr/\wr.cell? ⟨w.heap.size,0,none⟩=some (.slice A n c)/\zh wr (w.heap.size+1) 37 #[.slice none 0 0])
 case atStart=>
  refine⟨0,0,Z,[],zb,zb,rfl,lk.start x _ am,?_,S,hB,g1,H⟩;show Z.toList=zq .u64 (List.replicate q 0++[])++Value.int .u64 0::zq .u64 (List.replicate (n - 0) 0);rw [HZ.o,List.append_nil,Nat.sub_zero,<-V8,<-tJ,List.replicate_append_replicate,show q+(n+1)=N from by have:=M.o;omega]
 case round=>
  clear hB g1 H S;obtain⟨i,cc,cs,out,hi,hg,rfl,t,F,y,hB,g1,B⟩:=hrel;have I:=t.o.len;have u:(zq .u64 (List.replicate q 0++out)).length=q+i:=by rw [wt,QV,yE,I]
  by_cases hlt:i<n
  ·have R:=(HA.o wr hB).1;obtain⟨ad,rfl,U,hx⟩:=wB R hlt;rw [oH] at hx;have ar:=wF x i;have K:=za (t.o.step (s:=wd x i*2^r+cc) rfl);have V:=t.o.carry;obtain⟨a,ha⟩:∃a,wd x i=a:=⟨_,rfl⟩;rw [ha] at hx ar K;have O:=za (pp (a:=a) J V);have P:=za (Pv (a:=a) J V);obtain⟨m,hm⟩:∃m,n - i=m+1:=⟨n - i - 1,zb⟩;have j:=F.o;rw [hm,V8] at j;have af:cs.size=q+i+(m+2):=by
    have h:=congrArg List.length j;rw [YZ] at h;rw [h,QV,u,xP,xP,wt,yE]
   have ag:cs[q+i]?=some (.int .u64 cc):=by
    rw [<-QM,j,QK zb,u,yJ];rfl
   have ah:cs[q+i+1]?=some (.int .u64 0):=by
    rw [<-QM,j,QK zb,u,show q+i+1 - (q+i)=1 from by omega];rfl
   have q1:wr.cell? ⟨gs,q+i,none⟩=some (.int .u64 cc):=(y.cell _).trans ag;have q2:=y.frozen (q+i);have ai:=za j;have al:=za u;have HM:=za hm;have hNn:q+i+2<=N:=by have:=M.o;omega
   obtain⟨i1,i2,i3,i4,i5,i6,i7⟩:(0:Int)<=(i:Int)/\(i:Int)<(n:Int)/\(0:Int)<=(q:Int)+(i:Int)/\(q:Int)+(i:Int)<(N:Int)/\(0:Int)<=(q:Int)+(i:Int)+1/\(q:Int)+(i:Int)+1<(N:Int)/\q+i+1<N:=zb;obtain⟨j1,j2,j3,j4,j5⟩:IntKind.i64.wrap ((q:Int)+(i:Int))=(q:Int)+(i:Int)/\IntKind.i64.wrap ((q:Int)+(i:Int)+1)=(q:Int)+(i:Int)+1/\IntKind.i64.wrap (64 - (r:Int))=64 - (r:Int)/\((q:Int)+(i:Int)).toNat=q+i/\((q:Int)+(i:Int)+1).toNat=q+i+1:=⟨QO _ zb,QO _ zb,QO _ zb,zb,zb⟩;clear ha t F R j u hm af ag U I;go_wp2_with fail;go_region;rw [O.o];obtain⟨s1,e1⟩:∃s1,(a*2^r+cc)%18446744073709551616=s1:=⟨_,rfl⟩;obtain⟨s2,e2⟩:∃s2,(a*2^r+cc) / 18446744073709551616=s2:=⟨_,rfl⟩;rw [e1,e2] at K;rw [e2] at P;rw [e1];clear O e1 e2 q1 q2;have z:=(y.set_ (q+i) (.int .u64 (s1:Int))).drew;have ax:=(B.far (p:=⟨gs,q+i,none⟩) (by show w.heap.size+1≠gs;omega) (.int .u64 (s1:Int))).drew;have an:=(zz (p:=⟨gs,q+i,none⟩) (.int .u64 (s1:Int)) (by show w.heap.size<=gs;omega) hB).drew;have g2:((wr.setCell ⟨gs,q+i,none⟩ (.int .u64 (s1:Int))).drew).cell? ⟨w.heap.size,0,none⟩=some (.slice (some ad) n c):=zR _ (by show w.heap.size≠gs;omega) g1;generalize (wr.setCell ⟨gs,q+i,none⟩ (.int .u64 (s1:Int))).drew=w3 at*;have q1:w3.cell? ⟨gs,q+i+1,none⟩=some (.int .u64 0):=(z.cell _).trans (by rw [qR zb];exact ah);have q2:=z.frozen (q+i+1);have hv2:=P.o;clear ah y B hB g1 hx;go_wp2_with fail;have X:=z.set_ (q+i+1) (.int .u64 (s2:Int));have ay:=ax.far (p:=⟨gs,q+i+1,none⟩) (by show w.heap.size+1≠gs;omega) (.int .u64 (s2:Int));have ao:=zz (p:=⟨gs,q+i+1,none⟩) (.int .u64 (s2:Int)) (by show w.heap.size<=gs;omega) an;have g5:=zR (q:=⟨gs,q+i+1,none⟩) (.int .u64 (s2:Int)) (by show w.heap.size≠gs;omega) g2;go_roundg (n - i)
   case measure=>omega
   case rel=>
    refine⟨i+1,s2,_,_,zb,zb,by go_num,K.o,?_,X,ao,g5,ay⟩;show _=_;rw [xH,xH,ai.o,mu al.o,<-xJ,fa,show n - (i+1)=m from by have:=HM.o;omega,xJ];rfl
  ·have aw:i=n:=zb;subst aw;have j:=F.o;rw [yJ] at j;have e:=t.o.done (q:=q) (by have:=ak.o;omega);rw [aj.o] at e;have D:cs.toList=zq .u64 (List.replicate q 0++out++[cc]):=by rw [j,fa];rfl
   have C:(List.replicate q 0++out++[cc]).length=N:=by
    have:=M.o;simp [I];omega
   have E:cs.size=N:=by
    have h:=congrArg List.length D;rw [YZ,wt,C] at h;exact h
   have Y:zD 18446744073709551616 (List.replicate q 0++out++[cc]):=by
    have h:=t.o.carry;have h2:2^r<=2^63:=qV zg zb;exact((zD.zeros zg q).append t.o.dgs).append (by intro d hd;simp at hd;subst hd;omega)
   have T:=fB (some ⟨gs,0,none⟩) N N wr.heap.size _ wr (ju y E (by rw [<-E,<-YZ,List.take_length];exact D) C) Y (qY _) zb zb;rw [e] at T;have HT:=za T;have au:wr.cell? ⟨w.heap.size+1,0,none⟩=some (.slice none 0 0):=B.cell 0;have hf1:=B.frozen 0;clear T y j D C E Y t F e B g1 I u;go_wp2_with fail;refine HT.o.mono ?_;rintro e w2 ⟨A1,c1,rfl,ae,h1,h2,Q,rfl⟩;have G:=eJ hB (p:=w.heap.size+1) (gs:=gs) zb zb ae h1 h2 Q zb (.slice A1 (dg 18446744073709551616 (2^k*x)).length c1);have HG:zd (iL w (2^k*x) true (.returned (.tuple #[.agg #[.slice A1 (dg 18446744073709551616 (2^k*x)).length c1],.bool true])) (wr.setCell ⟨w.heap.size+1,0,none⟩ (.slice A1 (dg 18446744073709551616 (2^k*x)).length c1))):=⟨_,_,_,rfl,G.2.1,G.1,G.2.2⟩;clear G ae h1 h2 Q;obtain⟨L,hL⟩:∃L,(dg 18446744073709551616 (2^k*x)).length=L:=⟨_,rfl⟩;rw [hL] at HG⊢;clear hL;go_wp2;refine bodyPost_ret (v:=.tuple #[.agg #[.slice A1 L c1],.bool true]) (by simp [results,results186,go_sem,au]) rfl ?_;exact HG.o
theorem Rs (w:World):zn w 0 none 0 0:=⟨zH.none_,qY _,zb⟩
theorem SS (x k:Nat)(A:ze)(n c:Nat)(w:World)(hA:zn w x A n c)(hn:n<=549755813888)(hk:bitLen x<=k):
  Calls prog 189 #[.agg #[.slice A n c],.int .i64 k] w (xp w 0):=by
 have HC:=zj w (λw' hb=>aP x A n c w' (hA.below hb) zb);obtain⟨z,hz⟩:∃z,bitLen x=z:=⟨_,rfl⟩;rw [hz] at HC hk;have hd:decide ((z:Int)<=(k:Int))=true:=by simpa using hk
 clear hz hA;go_enter func189,ntmps189;go_wp2_with fail;generalize hW:(w.alloc (.cells #[.slice A n c] 37)).alloc (.cells #[.slice none 0 0] 37)=W0;obtain⟨b1,b2,b4,b5⟩:=zX w 37 37 #[.slice A n c] #[.slice none 0 0];rw [hW] at b1 b2 b4 b5;clear hW b2;refine(HC.o _ b1).mono ?_;rintro e w1 ⟨rfl,hb⟩;have hB:=zc b1 hb;have hk:=zf hb b4;have a:w1.cell? ⟨w.heap.size+1,0,none⟩=some (.slice none 0 0):=hk.cell 0;have hf1:=hk.frozen 0;have HG:zd (xp w 0 (.returned (.agg #[.slice none 0 0])) (w1.setCell ⟨w.heap.size+1,0,none⟩ (.slice none 0 0))):=⟨_,_,_,rfl,Rs _,zz _ (by show _<=w.heap.size+1;omega) hB,tN.none_ _⟩;clear hB hk hb b1 b4;go_wp2;refine bodyPost_ret (v:=.agg #[.slice none 0 0]) (by simp [results,results189,go_sem,a]) rfl ?_;exact HG.o
theorem nW (x k:Nat)(A:ze)(n c:Nat)(w:World)(hA:zn w x A n c)(hn:n<=549755813888)(hk:k<bitLen x):
  Calls prog 189 #[.agg #[.slice A n c],.int .i64 k] w (xp w (x / 2^k)):=by
 obtain⟨i0,ab,ak,al,am⟩:=info_parts ol;have t:=hA.len;have X:bitLen x<=64*n:=jt _ _ (by
  have h:=ym (b:=18446744073709551616) zg x;rw [t,show(18446744073709551616:Nat)=2^64 from rfl,<-yG] at h;exact h)
 have HC:=(λw' (hb:Below w.heap.size w w')=>aP x A n c w' (hA.below hb) zb);have HA:=zj w (λw' hb=>hA.below hb);obtain⟨q,hq⟩:∃q,k / 64=q:=⟨_,rfl⟩;obtain⟨r,hr⟩:∃r,k%64=r:=⟨_,rfl⟩;have M:r<64:=zb;have hqn:q<n:=zb;obtain⟨z,hz⟩:∃z,bitLen x=z:=⟨_,rfl⟩;rw [hz] at HC hk X;have HC:=za HC;have hd:decide ((z:Int)<=(k:Int))=false:=by simp;omega
 have hzk:z<=35184372088832:=zb;have W:∀i,wd (x / 2^k) i=wd x (q+i) / 2^r+2^(64 - r)*(wd x (q+i+1)%2^r):=λi=>by rw [pP,hq,hr]
 have HW:=za W;obtain⟨N,hN⟩:∃N,n - q=N:=⟨_,rfl⟩;have C:0<N/\N<=n:=zb;obtain⟨C,hNn⟩:=C;have S:(n:Int) - (q:Int)=(N:Int):=zb;have U:IntKind.i64.wrap (N:Int)=(N:Int):=QO _ zb;obtain⟨Z,hZ⟩:∃Z,madeCells (Value.cells (.int .u64 0)) (N*i0.size)=Z:=⟨_,rfl⟩;have HZ:zd (Z.size=N):=by show _=_;rw [<-hZ,size_madeCells,al,xC]
 have af:∀W:World,(Instr.makeSlice 35 (.int .i64 (N:Int)) (.int .i64 (N:Int))).run prog W=.ok (.slice (some ⟨W.heap.size,0,none⟩) N N) (W.alloc (.cells Z 132)):=λW=>by
  rw [<-hZ];exact tH _ _ i0 _ underlying35 ab ak _ _ N N (qY _) (by rw [am];omega) zb W
 have HL:zd ((dg 18446744073709551616 (x / 2^k)).length<=N):=by
  refine wy zg _ _ ?_;have h:=ym (b:=18446744073709551616) zg x;rw [t] at h;refine(QP (QW k)).2 ?_;rw [<-nJ k,hq,hr,<-qG,<-xX,show N+q=n from by omega];exact qJ h (Nat.le_mul_of_pos_right _ (QW r))
 have hkd:decide ((k:Int)<0)=false:=zE;have I:(k:Int) / 64=(q:Int):=zb;have J:(k:Int)%64=(r:Int):=zb;have ag:(k:Int).tdiv 64=(q:Int):=by rw [Int.tdiv_eq_ediv_of_nonneg zb];exact I
 have ah:(k:Int).tmod 64=(r:Int):=by rw [xL zb];exact J
 clear hZ hA t hN hq hr hz W;go_enter func189,ntmps189;go_wp2_with fail;generalize hW:(w.alloc (.cells #[.slice A n c] 37)).alloc (.cells #[.slice none 0 0] 37)=W0;obtain⟨b1,b2,b4,b5⟩:=zX w 37 37 #[.slice A n c] #[.slice none 0 0];rw [hW] at b1 b2 b4 b5;have g1:W0.cell? ⟨w.heap.size,0,none⟩=some (.slice A n c):=b2.cell 0;clear hW b2;refine(HC.o _ b1).mono ?_;rintro e w1 ⟨rfl,hb⟩;have hB:=zc b1 hb;have d:=zf hb b4;have g3:=zt hb g1;have ai:=hb.size;clear hb g1 b1 b4;go_wp2_with fail;refine(vN x _ _ _ _).mono ?_;rintro e w2 ⟨rfl,hb⟩;have hB:=zc hB hb;have d:=zf hb d;have g1:=zt hb g3;have aj:=hb.size;have hgs:w.heap.size+2<=w2.heap.size:=zb;clear hb g3 ai aj b5;go_wp2_with fail;have D:=zh.new w2 132 Z;have hB:=xk (.cells Z 132) hB;have d:=d.alloc (.cells Z 132);have g1:=xt (.cells Z 132) g1;generalize w2.alloc (.cells Z 132)=W1 at*;generalize w2.heap.size=gs at*;clear af S U I J ag ah
 rename_i hh1 _ _ hh2
 clear hh1
 go_loopg [8,29] (N + 1) (fun g _ ix wr => ∃ (i : Nat) (cs : Array Value),i ≤ N ∧ N < g + i ∧ ix = .int .i64 i ∧ cs.size = N ∧ cs.toList.take i = zq .u64 (vQ (x / 2 ^ k) i) ∧ zh wr gs 132 cs ∧
   Below w.heap.size w wr/\wr.cell? ⟨w.heap.size,0,none⟩=some (.slice A n c)/\zh wr (w.heap.size+1) 37 #[.slice none 0 0])
 case atStart=>exact⟨0,Z,zb,zb,rfl,HZ.o,rfl,D,hB,g1,d⟩
 case round=>
  clear hB g1 d D;obtain⟨i,cs,hi,hg,rfl,hsz,o,m,hB,g1,j⟩:=hrel;by_cases hlt:i<N
  ·have E:=wF x (q+i);have V:=wF x (q+i+1);have WX:=(λw' (h:Below w.heap.size w w')=>ki x A n c (q+i) w' (HA.o w' h));have WY:=(λw' (h:Below w.heap.size w w')=>ki x A n c (q+i+1) w' (HA.o w' h));rw [Int.natCast_add] at WX;rw [show((q+i+1:Nat):Int)=(q:Int)+(i:Int)+1 from by omega] at WY;have s:=za (HW.o i);obtain⟨a,ha⟩:∃a,wd x (q+i)=a:=⟨_,rfl⟩;obtain⟨b,hb⟩:∃a,wd x (q+i+1)=a:=⟨_,rfl⟩;rw [ha] at WX E s;rw [hb] at WY V s;have P:=za WX;have Q:=za WY;have y:=za hsz;have O:=za o;obtain⟨u,hu⟩:∃u,cs[i]?=some u:=⟨cs[i]' zb,QZ zb⟩;have HU:=za hu;clear WX WY ha hb o hu hsz;have i1:(0:Int)<=(i:Int):=zb;have i2:(i:Int)<(N:Int):=zb;obtain⟨j1,j2,j3⟩:IntKind.i64.wrap ((q:Int)+(i:Int))=(q:Int)+(i:Int)/\IntKind.i64.wrap ((q:Int)+(i:Int)+1)=(q:Int)+(i:Int)+1/\IntKind.i64.wrap (64 - (r:Int))=64 - (r:Int):=⟨QO _ zb,QO _ zb,QO _ zb⟩;go_wp2_with fail;have F:=hB.drew;have H:=j.drew;have Y:=m.drew
   go_region_held3 (fun w' => Below w.heap.size w w' ∧ w'.cell? ⟨w.heap.size,0,none⟩ = some (.slice A n c) ∧ zh w' (w.heap.size + 1) 37 #[.slice none 0 0])
    (first|(exact⟨F,g1,H⟩)|(go_split_ands;(repeat' apply And.intro);all_goals (first|exact zk|exact zc zk hb|exact zt hb zk|exact zf hb zk|exact zz _ (by simp;omega) zk|exact zR _ (by simp;omega) zk|exact zh.far zk (by simp;omega) _)))
    (first
      |(go_at_call 164;with_reducible refine(P.o _ (by first|exact zk|exact XV zk)).mono ?_;rintro e w' ⟨rfl,hb⟩;have d:zh w' gs 132 cs:=zf hb zk;have q1:=(d.cell i).trans HU.o;have q2:=d.frozen i)
      |(go_at_call 164;with_reducible refine(Q.o _ (by first|exact zk|exact XV zk)).mono ?_;rintro e w' ⟨rfl,hb⟩;have d:zh w' gs 132 cs:=zf hb zk;have q1:=(d.cell i).trans HU.o;have q2:=d.frozen i))
   rename_i hH
   obtain⟨R,g3,ad⟩:=hH;have ae:=d.set_ i (.int .u64 (bits .or .u64 ((a:Int) / 2^r) (IntKind.u64.wrap ((b:Int)*2^(64 - r)))));have HV:zd ((cs.setIfInBounds i (.int .u64 (bits .or .u64 ((a:Int) / 2^r) (IntKind.u64.wrap ((b:Int)*2^(64 - r)))))).toList.take (i+1)=zq .u64 (vQ (x / 2^k) (i+1))):=by
    show _=_;rw [Zl _ _ _ (by have:=y.o;omega),O.o,cW,fa,s.o,V2 E M]
   clear hb d q1 q2 F H Y hB g1 j m j1 j2 j3;go_wp2;go_roundg (N - i)
   case measure=>omega
   case rel=>exact⟨i+1,_,zb,zb,by go_num,by simpa using y.o,HV.o,ae,R,g3,ad⟩
  ·have ac:i=N:=zb;subst ac;have e:=Xf HL.o;have T:=fB (some ⟨gs,0,none⟩) i i wr.heap.size (vQ (x / 2^k) i) wr (ju m hsz o (lR _ _)) (Xg _ _) (qY _) zb zb;rw [e] at T;have HT:=za T;have aa:wr.cell? ⟨w.heap.size+1,0,none⟩=some (.slice none 0 0):=j.cell 0;have hf1:=j.frozen 0;clear T m hsz o e j g1;go_wp2_with fail;refine HT.o.mono ?_;rintro e w2 ⟨A1,c1,rfl,K,h1,h2,B,rfl⟩;have G:=eJ hB (p:=w.heap.size+1) (gs:=gs) zb zb K h1 h2 B zb (.slice A1 (dg 18446744073709551616 (x / 2^k)).length c1);have HG:zd (xp w (x / 2^k) (.returned (.agg #[.slice A1 (dg 18446744073709551616 (x / 2^k)).length c1])) (wr.setCell ⟨w.heap.size+1,0,none⟩ (.slice A1 (dg 18446744073709551616 (x / 2^k)).length c1))):=⟨_,_,_,rfl,G.2.1,G.1,G.2.2⟩;clear G K h1 h2 B;obtain⟨L,hL⟩:∃L,(dg 18446744073709551616 (x / 2^k)).length=L:=⟨_,rfl⟩;rw [hL] at HG⊢;clear hL;go_wp2;refine bodyPost_ret (v:=.agg #[.slice A1 L c1]) (by simp [results,results189,go_sem,aa]) rfl ?_;exact HG.o
theorem Qs (x:Nat):x<2^bitLen x:=by
 unfold bitLen
 split
 ·rename_i h;subst h;decide
 ·exact Nat.lt_log2_self
theorem Y5 (x k:Nat)(A:ze)(n c:Nat)(w:World)(hA:zn w x A n c)(hn:n<=549755813888):
  Calls prog 189 #[.agg #[.slice A n c],.int .i64 k] w (xp w (x / 2^k)):=by
 by_cases h:bitLen x<=k
 ·rw [QL (qJ (Qs x) (qV zg h))];exact SS x k A n c w hA hn h
 ·exact nW x k A n c w hA hn zb
theorem Sz.shl' {K k M:Nat}(h:Sz K x)(hk:k<=64*M):Sz (K+M) (2^k*x):=by
 unfold Sz at*;have h1:2^k<=18446744073709551616^M:=by
  rw [show(18446744073709551616:Nat)=2^64 from rfl,<-yG];exact qV zg hk
 rw [xX,qS (18446744073709551616^K)];exact QU (qW x h1) (Nat.mul_lt_mul_of_pos_left h (XH zg))
