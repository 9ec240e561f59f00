/- What this claim leans on. -/
import Derived.Test.YtipmllfnpldbdaaGreatDoorFBunN
set_option linter.unusedVariables false
set_option linter.unusedSimpArgs false
namespace Go.Proofs.YtipmllfnpldbdaaGreatDoor
open Go Go.RowKit Go.Proofs.Tryz
set_option maxHeartbeats 16000000
set_option maxRecDepth 100000
variable {xs:List Nat}{vs:List Value}{a b c d g m n x:Nat}{t:TypeId}{v v':Value}{w w':World}{A B:zf}
theorem kt (x:Nat)(A:zf)(n c:Nat)(w:World)(h:zo w x A n c)(hn:n<=1099511627776):
  Calls prog 90 #[.agg #[.slice A n c]] w (lJ w n (zv .u64 (dg 18446744073709551616 x))):=by
 obtain⟨hr,h1,h2⟩:=h;have a:=hr.len_;have C:∀o,Calls prog 107 #[.slice A n c] (w.alloc o) (lJ w n (zv .u64 (dg 18446744073709551616 x))):=λo=>by
  have i:=((hr.alloc (qX _) o).more (B':=(w.alloc o).heap.size) zD);rcases A with _|ad
  ·have d:n=0:=by
    rcases QR n with h|h
    ·exact h
    ·obtain⟨ad,e,_⟩:=hr.2 h;cases e
   subst d;have hl:zv .u64 (dg 18446744073709551616 x)=[]:=by rw [qN a];rfl
   rw [hl];exact(aY c _).mono λe w' ⟨he,hw⟩=>⟨_,he,XG _ _ _ _,by rw [<-hw];exact(qY _ w).alloc (qX _) o⟩
  ·refine(gQ ad n c _ (w.alloc o) i hn).mono λe w' ⟨v,he,ho,hb⟩=>?_;refine⟨v,he,⟨ho.1,?_⟩,((qY _ w).alloc (qX _) o).trans (hb.mono zD)⟩;rcases ho.2 with h|⟨g,cap,cur,e1,e2,e3⟩
   ·exact .inl h
   ·exact .inr ⟨g,cap,cur,e1,qA zD e2,e3⟩
 obtain⟨L,hL⟩:∃L,zv .u64 (dg 18446744073709551616 x)=L:=⟨_,rfl⟩;rw [hL] at C⊢;have HC:=zd C;clear C hr a hL;go_enter func90,ntmps90;go_wp2_with fail;refine(HC.o _).mono ?_;intro e w1 hg;have G:=zd hg;obtain⟨v,rfl,_,_⟩:=hg;go_wp2;go_ret;exact G.o
def zw (w:World)(t:TypeId)(g cap n:Nat)(L:List Nat):Prop:=
 ∃cur,zi w g t cur/\n<=cap/\cap<=maxLen/\cur.size=cap/\L.length=n/\cur.toList.take n=zv .u64 L
section
variable {w w':World}{t:TypeId}{g cap n:Nat}{L:List Nat}
theorem zw.len (h:zw w t g cap n L):L.length=n:=by obtain⟨_,_,_,_,_,h,_⟩:=h;exact h
theorem zw.room (h:zw w t g cap n L):n<=cap/\cap<=maxLen:=by obtain⟨_,_,h,h2,_⟩:=h;exact⟨h,h2⟩
theorem zw.lt (h:zw w t g cap n L):g<w.heap.size:=by obtain⟨_,h,_⟩:=h;exact h.lt
theorem ot (k:IntKind)(l:List Nat)(i:Nat)(h:i<l.length):(zv k l)[i]?=some (.int k (l.getD i 0:Nat)):=by
 simp [zv,List.getD,qZ h]
theorem zw.cell (h:zw w t g cap n L)(k:Nat)(hk:k<n):w.cell? ⟨g,k,none⟩=some (.int .u64 (L.getD k 0:Nat)):=by
 obtain⟨cur,hb,h1,h2,h3,h4,h5⟩:=h;rw [hb.cell k,<-QL,<-ot .u64 L k za,<-h5,yK,if_pos hk]
theorem zw.frozen (h:zw w t g cap n L)(k:Nat):w.frozen? ⟨g,k,none⟩=false:=by
 obtain⟨cur,hb,_⟩:=h;exact hb.frozen k
theorem zw.set_ (h:zw w t g cap n L)(k d:Nat)(hk:k<n):zw (w.setCell ⟨g,k,none⟩ (.int .u64 (d:Int))) t g cap n (L.set k d):=by
 obtain⟨cur,hb,h1,h2,h3,h4,h5⟩:=h;refine⟨_,hb.set_ k _,h1,h2,by simpa using h3,by simpa using h4,?_⟩;rw [xV,YO,h5];unfold zv;rw [List.map_set]
theorem zw.below {B:Nat}(h:zw w t g cap n L)(hb:Below B w w')(hg:g<B):zw w' t g cap n L:=by
 obtain⟨a,h0,h1⟩:=h;exact⟨a,h0.below hb hg,h1⟩
theorem zw.keep (h:zw w t g cap n L)(hb:Below w.heap.size w w'):zw w' t g cap n L:=h.below hb h.lt
theorem zw.drew (h:zw w t g cap n L):zw w.drew t g cap n L:=h
theorem zw.alloc (h:zw w t g cap n L)(o:Obj):zw (w.alloc o) t g cap n L:=by
 obtain⟨a,h0,h1⟩:=h;exact⟨a,h0.alloc o,h1⟩
theorem zw.far (h:zw w t g cap n L){p:Addr}(hp:g≠p.block)(u:Value):zw (w.setCell p u) t g cap n L:=by
 obtain⟨a,h0,h1⟩:=h;exact⟨a,h0.far hp u,h1⟩
theorem zw.reads (h:zw w t g cap n L):zE w w.heap.size 1 (some ⟨g,0,none⟩) n (zv .u64 L):=by
 have hl:=h.lt;have hc:=h.cell;have hn:=h.len;refine⟨by rw [xn];omega,λ_=>⟨_,rfl,hl,λj u hu=>?_⟩⟩;have hj:j<L.length:=by
  rcases xB j L.length with hj|hj
  ·exact hj
  ·rw [xP (by rw [xn];exact hj)] at hu;cases hu
 have e:(⟨g,0,none⟩:Addr).add j=⟨g,j,none⟩:=by unfold Addr.add;split<;>simp_all
 rw [e,hc j za,<-ot .u64 L j hj,hu]
theorem zw.own (h:zw w t g cap n L){a:Nat}(hb:a<=g):w.ownsRow a t 1 (.slice (some ⟨g,0,none⟩) n cap) n (zv .u64 L):=by
 obtain⟨d,h0,h1,h2,h3,h4,h5⟩:=h;exact⟨by rw [xn];omega,.inr ⟨g,cap,d,rfl,hb,h0,h1,h2,za,by rw [xO];exact h5⟩⟩
theorem zw.made (w:World)(t:TypeId)(N:Nat)(hN:N<=maxLen):zw (w.alloc (.cells (madeCells (Value.cells (.int .u64 0)) N) t)) t w.heap.size N N (List.replicate N 0):=by
 refine⟨_,zi.new w t _,qX _,hN,size_madeCells _ _,zD,?_⟩;show(madeCells #[Value.int .u64 0] N).toList.take N=_;rw [toList_madeCells_one,qU zD];simp [zv]
theorem zw.of_own {j:Nat}{l:List Nat}(h:w.ownsRow j t 1 v n (zv .u64 l))(hn:0<n):∃g i,v=.slice (some ⟨g,0,none⟩) n i/\j<=g/\zw w t g i n l:=by
 obtain⟨h1,h2⟩:=h;rcases h2 with⟨_,h⟩|⟨g,i,cur,e,hb,hk,a,b,c,d⟩
 ·omega
 ·refine⟨g,i,e,hb,cur,hk,a,b,za,by rw [xn] at h1;omega,?_⟩;rw [xO] at d;exact d
end
theorem zE.of_grown_own {i:Nat}{xs:List Value}(h:w.ownsRow i t 1 v n xs):∃A c,v=.slice A n c/\n<=c/\c<=maxLen/\zE w w.heap.size 1 A n xs:=by
 have h0:=h;obtain⟨h1,h2⟩:=h;rcases h2 with⟨e,hn⟩|⟨g,cap,cur,e,hb,hk,a,b,c,d⟩
 ·subst hn;exact⟨none,0,e,qX _,by unfold maxLen;omega,by subst e;exact zE.of_own h0⟩
 ·exact⟨_,_,e,a,b,by subst e;exact zE.of_own h0⟩
structure jg (w:World)(A:zf)(n c:Nat)(xs:List Nat):Prop where
 len:xs.length=n
 fits:n<=c
 most:c<=9223372036854775807
 num:∀i,i<n->∃(ad:Addr) (B:zf) (m d:Nat),A=some ad/\ad.block<w.heap.size/\w.cell? (ad.add i)=some (.slice B m d)/\zo w (xs.getD i 0) B m d
theorem jg.below (h:jg w A n c xs)(hb:Below w.heap.size w w'):jg w' A n c xs:=
 ⟨h.len,h.fits,h.most,λi hi=>by
  obtain⟨ad,B,m,d,e,h1,h2,h3⟩:=h.num i hi;exact⟨ad,B,m,d,e,qJ h1 hb.size,zq hb h2,h3.below hb⟩⟩
theorem kR (h:zo w x A n c){p:Addr}(hp:0<n->∀ad,A=some ad->ad.block≠p.block)(u:Value):zo (w.setCell p u) x A n c:=by
 by_cases hn:0<n
 ·exact oA h (hp hn) u
 ·exact⟨⟨h.1.1,λh0=>absurd h0 hn⟩,h.2⟩
theorem fG (h:zo w x B m d){row:Option Nat}(hg:w.grownBy w' row)(hr:0<m->∀ad,B=some ad->some ad.block≠row):zo w' x B m d:=by
 obtain⟨a,h1,h2⟩:=h;refine⟨⟨a.1,λhn=>?_⟩,h1,h2⟩;obtain⟨ad,e,hb,hc⟩:=a.2 hn;refine⟨ad,e,qJ hb hg.size,λj u hu=>?_⟩;exact(World.cell?_of_block (hg.block _ (by rw [y9];exact hb) (by rw [y9];exact hr hn ad e))).trans (hc j u hu)
theorem ZL {a:zf}(h:zo w x A n c)(hk:zi w g t #[.slice a b d]):0<n->∀ad,A=some ad->ad.block≠g:=λhn ad e hg=>by
 obtain⟨ad',e',_,hc⟩:=h.1.2 hn;rw [e] at e';injection e' with e';subst e';have hl:=h.len;have h0:=hc 0 (.int .u64 ((dg 18446744073709551616 x).getD 0 0:Nat)) (ot .u64 _ 0 za);have e0:ad.add 0=ad:=by unfold Addr.add;rw [if_pos rfl]
 rw [e0] at h0;obtain⟨bk,off,pr⟩:=ad;simp only at hg;subst hg;unfold zi at hk;cases pr with
 |none=>
   rw [show w.cell? ⟨bk,off,none⟩=#[Value.slice a b d][off]? from cell_of_row w bk off _ t (0,0) hk] at h0
   match off,h0 with
   |0,h0=>simp at h0
   |o+1,h0=>simp at h0
 |some q=>simp [World.cell?,hk] at h0
theorem jJ {a:zf}(h:zo w x A n c)(hk:zi w g t #[.slice a b d])(u:Value):zo (w.setCell ⟨g,0,none⟩ u) x A n c:=
 kR h (ZL h hk) u
theorem yF {a:zf}(h:zo w x A n c)(hk:yi w g (.slice a b d))(u:Value):zo (w.setCell ⟨g,0,none⟩ u) x A n c:=by
 obtain⟨t,hk⟩:=hk;exact jJ h hk u
def lX (base:Nat)(v:Value)(B:zf)(m:Nat):Prop:=0<m->∀ad,B=some ad->base<=ad.block/\v.ownBlock≠some ad.block
theorem lX.grow (h:lX a v B m)(hx:zo w x B m d)(hg:w.grownBy w' v.ownBlock)(ha:v'.ownBlock=v.ownBlock\/v'.ownBlock=some w.heap.size):zo w' x B m d/\lX a v' B m:=by
 refine⟨fG hx hg (λhm ad e=>(h hm ad e).2.symm),λhm ad e=>⟨(h hm ad e).1,?_⟩⟩;rcases ha with ha|ha
 ·rw [ha];exact(h hm ad e).2
 ·rw [ha];obtain⟨ad',e',hlt,_⟩:=hx.1.2 hm;rw [e] at e';injection e' with e';subst e';intro hh;injection hh with hh;omega
structure vu (w:World)(base:Nat)(v:Value)(xs:List Nat)(vs:List Value):Prop where
 own:w.ownsRow base 56 1 v xs.length vs
 num:∀i,i<xs.length->∃(B:zf) (m d:Nat),vs[i]?=some (.slice B m d)/\zo w (xs.getD i 0) B m d/\lX base v B m
theorem vu.nil (w:World)(a:Nat):vu w a (.slice none 0 0) [] []:=⟨XG _ _ _ _,λi hi=>by simp at hi⟩
theorem vu.len (h:vu w a v xs vs):vs.length=xs.length:=by have:=h.own.1;omega
theorem vu.shape (h:vu w a v xs vs):∃A c,v=.slice A xs.length c/\jg w A xs.length c xs:=by
 obtain⟨A,c,e,h1,h2,h3⟩:=zE.of_grown_own h.own;refine⟨A,c,e,rfl,h1,by unfold maxLen at h2;omega,λi hi=>?_⟩;obtain⟨B,m,d,hv,hw,_⟩:=h.num i hi;obtain⟨ad,ea,hb,hc⟩:=h3.2 za;exact⟨ad,B,m,d,ea,hb,hc i _ hv,hw⟩
theorem vu.below (h:vu w a v xs vs)(hb:Below w.heap.size w w'):vu w' a v xs vs:=by
 refine⟨⟨h.own.1,?_⟩,λi hi=>?_⟩
 ·rcases h.own.2 with h1|⟨g,cap,cur,e1,e2,e3,e4⟩
  ·exact .inl h1
  ·exact .inr ⟨g,cap,cur,e1,e2,(hb.block g (zi.lt (t:=56) (cs:=cur) e3)).trans e3,e4⟩
 ·obtain⟨B,m,d,hv,hw,hf⟩:=h.num i hi;exact⟨B,m,d,hv,hw.below hb,hf⟩
theorem vu.set_ (h:vu w a v xs vs){p:Addr}(hp:p.block<a)(u:Value):vu (w.setCell p u) a v xs vs:=by
 refine⟨⟨h.own.1,?_⟩,λi hi=>?_⟩
 ·rcases h.own.2 with h1|⟨g,cap,cur,e1,e2,e3,e4⟩
  ·exact .inl h1
  ·exact .inr ⟨g,cap,cur,e1,e2,zi.far (t:=56) (cs:=cur) e3 za u,e4⟩
 ·obtain⟨B,m,d,hv,hw,hf⟩:=h.num i hi;exact⟨B,m,d,hv,kR hw (λhm ad e=>by have:=(hf hm ad e).1;omega) u,hf⟩
theorem vu.grow {n:Nat}(h:vu w a v xs vs)(hx:zo w x B m d)(hB:lX a v B m)
  (ho:w'.ownsRow a 56 1 v' n (vs++[.slice B m d])) (hn:n=xs.length+1) (hg:w.grownBy w' v.ownBlock) (ha:v'.ownBlock=v.ownBlock\/v'.ownBlock=some w.heap.size):vu w' a v' (xs++[x]) (vs++[.slice B m d]):=by
 have hl:=h.len;refine⟨by rw [qB,XO,<-hn];exact ho,λi hi=>?_⟩;rw [qB,XO] at hi;by_cases hlt:i<xs.length
 ·obtain⟨C,k,e,hv,hw,hf⟩:=h.num i hlt;obtain⟨h1,h2⟩:=hf.grow hw hg ha;refine⟨C,k,e,by rw [qO za];exact hv,?_,h2⟩;rw [qQ,qO hlt,<-qQ];exact h1
 ·have g:i=xs.length:=za;subst g;obtain⟨h1,h2⟩:=hB.grow hx hg ha;refine⟨B,m,d,by rw [qD za,hl];simp,?_,h2⟩;rw [qQ,qD (qX _)];simpa using h1
