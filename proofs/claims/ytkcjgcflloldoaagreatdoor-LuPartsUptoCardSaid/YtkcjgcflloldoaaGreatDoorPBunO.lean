/- What this claim leans on. -/
import Derived.Test.YtkcjgcflloldoaaGreatDoorPBunN
set_option linter.unusedVariables false
set_option linter.unusedSimpArgs false
namespace Go.Proofs.YtkcjgcflloldoaaGreatDoor
open Go Go.RowKit Go.Proofs.Tryz
set_option maxHeartbeats 16000000
set_option maxRecDepth 100000
variable {xs:List Nat}{vs:List Value}{a b c d g m n x:Nat}{t:TypeId}{v v':Value}{w w':World}{A B:ze}
theorem bR (x:Nat)(A:ze)(n c:Nat)(w:World)(h:zo w x A n c)(hn:n<=1099511627776):
  Calls prog 103 #[.agg #[.slice A n c]] w (cN w n (zt .u64 (dg 18446744073709551616 x))):=by
 obtain⟨hr,h1,h2⟩:=h;have a:=hr.len_;have C:∀o,Calls prog 138 #[.slice A n c] (w.alloc o) (cN w n (zt .u64 (dg 18446744073709551616 x))):=λo=>by
  have i:=((hr.alloc (qX _) o).more (B':=(w.alloc o).heap.size) zG);rcases A with _|ad
  ·have d:n=0:=by
    rcases xQ n with h|h
    ·exact h
    ·obtain⟨ad,e,_⟩:=hr.2 h;cases e
   subst d;have hl:zt .u64 (dg 18446744073709551616 x)=[]:=by rw [QX a];rfl
   rw [hl];exact(Rt c _).mono λe w' ⟨he,hw⟩=>⟨_,he,xJ _ _ _ _,by rw [<-hw];exact(qZ _ w).alloc (qX _) o⟩
  ·refine(Ve ad n c _ (w.alloc o) i hn).mono λe w' ⟨v,he,ho,hb⟩=>?_;refine⟨v,he,⟨ho.1,?_⟩,((qZ _ w).alloc (qX _) o).trans (hb.mono zG)⟩;rcases ho.2 with h|⟨g,cap,cur,e1,e2,e3⟩
   ·exact .inl h
   ·exact .inr ⟨g,cap,cur,e1,qD zG e2,e3⟩
 obtain⟨L,hL⟩:∃L,zt .u64 (dg 18446744073709551616 x)=L:=⟨_,rfl⟩;rw [hL] at C⊢;have HC:=zb C;clear C hr a hL;go_enter func103,ntmps103;go_wp2_with fail;refine(HC.o _).mono ?_;intro e w1 hg;have G:=zb hg;obtain⟨v,rfl,_,_⟩:=hg;go_wp2;go_ret;exact G.o
def zJ (w:World)(t:TypeId)(g cap n:Nat)(L:List Nat):Prop:=
 ∃cur,zh w g t cur/\n<=cap/\cap<=maxLen/\cur.size=cap/\L.length=n/\cur.toList.take n=zt .u64 L
section
variable {w w':World}{t:TypeId}{g cap n:Nat}{L:List Nat}
theorem zJ.len (h:zJ w t g cap n L):L.length=n:=by obtain⟨_,_,_,_,_,h,_⟩:=h;exact h
theorem zJ.room (h:zJ w t g cap n L):n<=cap/\cap<=maxLen:=by obtain⟨_,_,h,h2,_⟩:=h;exact⟨h,h2⟩
theorem zJ.lt (h:zJ w t g cap n L):g<w.heap.size:=by obtain⟨_,h,_⟩:=h;exact h.lt
theorem kj (k:IntKind)(l:List Nat)(i:Nat)(h:i<l.length):(zt k l)[i]?=some (.int k (l.getD i 0:Nat)):=by
 simp [zt,List.getD,qY h]
theorem zJ.cell (h:zJ w t g cap n L)(k:Nat)(hk:k<n):w.cell? ⟨g,k,none⟩=some (.int .u64 (L.getD k 0:Nat)):=by
 obtain⟨cur,hb,h1,h2,h3,h4,h5⟩:=h;rw [hb.cell k,<-QR,<-kj .u64 L k za,<-h5,xI,if_pos hk]
theorem zJ.frozen (h:zJ w t g cap n L)(k:Nat):w.frozen? ⟨g,k,none⟩=false:=by
 obtain⟨cur,hb,_⟩:=h;exact hb.frozen k
theorem zJ.set_ (h:zJ w t g cap n L)(k d:Nat)(hk:k<n):zJ (w.setCell ⟨g,k,none⟩ (.int .u64 (d:Int))) t g cap n (L.set k d):=by
 obtain⟨cur,hb,h1,h2,h3,h4,h5⟩:=h;refine⟨_,hb.set_ k _,h1,h2,by simpa using h3,by simpa using h4,?_⟩;rw [QL,YR,h5];unfold zt;rw [List.map_set]
theorem zJ.below {B:Nat}(h:zJ w t g cap n L)(hb:Below B w w')(hg:g<B):zJ w' t g cap n L:=by
 obtain⟨a,h0,h1⟩:=h;exact⟨a,h0.below hb hg,h1⟩
theorem zJ.keep (h:zJ w t g cap n L)(hb:Below w.heap.size w w'):zJ w' t g cap n L:=h.below hb h.lt
theorem zJ.drew (h:zJ w t g cap n L):zJ w.drew t g cap n L:=h
theorem zJ.alloc (h:zJ w t g cap n L)(o:Obj):zJ (w.alloc o) t g cap n L:=by
 obtain⟨a,h0,h1⟩:=h;exact⟨a,h0.alloc o,h1⟩
theorem zJ.far (h:zJ w t g cap n L){p:Addr}(hp:g≠p.block)(u:Value):zJ (w.setCell p u) t g cap n L:=by
 obtain⟨a,h0,h1⟩:=h;exact⟨a,h0.far hp u,h1⟩
theorem zJ.reads (h:zJ w t g cap n L):zL w w.heap.size 1 (some ⟨g,0,none⟩) n (zt .u64 L):=by
 have hl:=h.lt;have hc:=h.cell;have hn:=h.len;refine⟨by rw [wL];omega,λ_=>⟨_,rfl,hl,λj u hu=>?_⟩⟩;have hj:j<L.length:=by
  rcases xW j L.length with hj|hj
  ·exact hj
  ·rw [QE (by rw [wL];exact hj)] at hu;cases hu
 have e:(⟨g,0,none⟩:Addr).add j=⟨g,j,none⟩:=by unfold Addr.add;split<;>simp_all
 rw [e,hc j za,<-kj .u64 L j hj,hu]
theorem zJ.own (h:zJ w t g cap n L){a:Nat}(hb:a<=g):w.ownsRow a t 1 (.slice (some ⟨g,0,none⟩) n cap) n (zt .u64 L):=by
 obtain⟨c,h0,h1,h2,h3,h4,h5⟩:=h;exact⟨by rw [wL];omega,.inr ⟨g,cap,c,rfl,hb,h0,h1,h2,za,by rw [xS];exact h5⟩⟩
theorem zJ.made (w:World)(t:TypeId)(N:Nat)(hN:N<=maxLen):zJ (w.alloc (.cells (madeCells (Value.cells (.int .u64 0)) N) t)) t w.heap.size N N (List.replicate N 0):=by
 refine⟨_,zh.new w t _,qX _,hN,size_madeCells _ _,zG,?_⟩;show(madeCells #[Value.int .u64 0] N).toList.take N=_;rw [toList_madeCells_one,qV zG];simp [zt]
theorem zJ.of_own {j:Nat}{l:List Nat}(h:w.ownsRow j t 1 v n (zt .u64 l))(hn:0<n):∃g i,v=.slice (some ⟨g,0,none⟩) n i/\j<=g/\zJ w t g i n l:=by
 obtain⟨h1,h2⟩:=h;rcases h2 with⟨_,h⟩|⟨g,i,cur,e,hb,hk,a,b,c,d⟩
 ·omega
 ·refine⟨g,i,e,hb,cur,hk,a,b,za,by rw [wL] at h1;omega,?_⟩;rw [xS] at d;exact d
end
theorem zL.of_grown_own {i:Nat}{xs:List Value}(h:w.ownsRow i t 1 v n xs):∃A c,v=.slice A n c/\n<=c/\c<=maxLen/\zL w w.heap.size 1 A n xs:=by
 have h0:=h;obtain⟨h1,h2⟩:=h;rcases h2 with⟨e,hn⟩|⟨g,cap,cur,e,hb,hk,a,b,c,d⟩
 ·subst hn;exact⟨none,0,e,qX _,by unfold maxLen;omega,by subst e;exact zL.of_own h0⟩
 ·exact⟨_,_,e,a,b,by subst e;exact zL.of_own h0⟩
structure ZD (w:World)(A:ze)(n c:Nat)(xs:List Nat):Prop where
 len:xs.length=n
 fits:n<=c
 most:c<=9223372036854775807
 num:∀i,i<n->∃(ad:Addr) (B:ze) (m d:Nat),A=some ad/\ad.block<w.heap.size/\w.cell? (ad.add i)=some (.slice B m d)/\zo w (xs.getD i 0) B m d
theorem ZD.below (h:ZD w A n c xs)(hb:Below w.heap.size w w'):ZD w' A n c xs:=
 ⟨h.len,h.fits,h.most,λi hi=>by
  obtain⟨ad,B,m,d,e,h1,h2,h3⟩:=h.num i hi;exact⟨ad,B,m,d,e,qJ h1 hb.size,zq hb h2,h3.below hb⟩⟩
theorem aM (h:zo w x A n c){p:Addr}(hp:0<n->∀ad,A=some ad->ad.block≠p.block)(u:Value):zo (w.setCell p u) x A n c:=by
 by_cases hn:0<n
 ·exact jg h (hp hn) u
 ·exact⟨⟨h.1.1,λh0=>absurd h0 hn⟩,h.2⟩
theorem Vz (h:zo w x B m d){row:Option Nat}(hg:w.grownBy w' row)(hr:0<m->∀ad,B=some ad->some ad.block≠row):zo w' x B m d:=by
 obtain⟨a,h1,h2⟩:=h;refine⟨⟨a.1,λhn=>?_⟩,h1,h2⟩;obtain⟨ad,e,hb,hc⟩:=a.2 hn;refine⟨ad,e,qJ hb hg.size,λj u hu=>?_⟩;exact(World.cell?_of_block (hg.block _ (by rw [yw];exact hb) (by rw [yw];exact hr hn ad e))).trans (hc j u hu)
theorem Qn {a:ze}(h:zo w x A n c)(hk:zh w g t #[.slice a b d]):0<n->∀ad,A=some ad->ad.block≠g:=λhn ad e hg=>by
 obtain⟨ad',e',_,hc⟩:=h.1.2 hn;rw [e] at e';injection e' with e';subst e';have hl:=h.len;have h0:=hc 0 (.int .u64 ((dg 18446744073709551616 x).getD 0 0:Nat)) (kj .u64 _ 0 za);have e0:ad.add 0=ad:=by unfold Addr.add;rw [if_pos rfl]
 rw [e0] at h0;obtain⟨bk,off,pr⟩:=ad;simp only at hg;subst hg;unfold zh at hk;cases pr with
 |none=>
   rw [show w.cell? ⟨bk,off,none⟩=#[Value.slice a b d][off]? from cell_of_row w bk off _ t (0,0) hk] at h0
   match off,h0 with
   |0,h0=>simp at h0
   |o+1,h0=>simp at h0
 |some q=>simp [World.cell?,hk] at h0
theorem Z5 {a:ze}(h:zo w x A n c)(hk:zh w g t #[.slice a b d])(u:Value):zo (w.setCell ⟨g,0,none⟩ u) x A n c:=
 aM h (Qn h hk) u
theorem wB {a:ze}(h:zo w x A n c)(hk:xp w g (.slice a b d))(u:Value):zo (w.setCell ⟨g,0,none⟩ u) x A n c:=by
 obtain⟨t,hk⟩:=hk;exact Z5 h hk u
def bG (base:Nat)(v:Value)(B:ze)(m:Nat):Prop:=0<m->∀ad,B=some ad->base<=ad.block/\v.ownBlock≠some ad.block
theorem bG.grow (h:bG a v B m)(hx:zo w x B m d)(hg:w.grownBy w' v.ownBlock)(ha:v'.ownBlock=v.ownBlock\/v'.ownBlock=some w.heap.size):zo w' x B m d/\bG a v' B m:=by
 refine⟨Vz hx hg (λhm ad e=>(h hm ad e).2.symm),λhm ad e=>⟨(h hm ad e).1,?_⟩⟩;rcases ha with ha|ha
 ·rw [ha];exact(h hm ad e).2
 ·rw [ha];obtain⟨ad',e',hlt,_⟩:=hx.1.2 hm;rw [e] at e';injection e' with e';subst e';intro hh;injection hh with hh;omega
structure tI (w:World)(base:Nat)(v:Value)(xs:List Nat)(vs:List Value):Prop where
 own:w.ownsRow base 50 1 v xs.length vs
 num:∀i,i<xs.length->∃(B:ze) (m d:Nat),vs[i]?=some (.slice B m d)/\zo w (xs.getD i 0) B m d/\bG base v B m
theorem tI.nil (w:World)(a:Nat):tI w a (.slice none 0 0) [] []:=⟨xJ _ _ _ _,λi hi=>by simp at hi⟩
theorem tI.len (h:tI w a v xs vs):vs.length=xs.length:=by have:=h.own.1;omega
theorem tI.shape (h:tI w a v xs vs):∃A c,v=.slice A xs.length c/\ZD w A xs.length c xs:=by
 obtain⟨A,c,e,h1,h2,h3⟩:=zL.of_grown_own h.own;refine⟨A,c,e,rfl,h1,by unfold maxLen at h2;omega,λi hi=>?_⟩;obtain⟨B,m,d,hv,hw,_⟩:=h.num i hi;obtain⟨ad,ea,hb,hc⟩:=h3.2 za;exact⟨ad,B,m,d,ea,hb,hc i _ hv,hw⟩
theorem tI.below (h:tI w a v xs vs)(hb:Below w.heap.size w w'):tI w' a v xs vs:=by
 refine⟨⟨h.own.1,?_⟩,λi hi=>?_⟩
 ·rcases h.own.2 with h1|⟨g,cap,cur,e1,e2,e3,e4⟩
  ·exact .inl h1
  ·exact .inr ⟨g,cap,cur,e1,e2,(hb.block g (zh.lt (t:=50) (cs:=cur) e3)).trans e3,e4⟩
 ·obtain⟨B,m,d,hv,hw,hf⟩:=h.num i hi;exact⟨B,m,d,hv,hw.below hb,hf⟩
theorem tI.set_ (h:tI w a v xs vs){p:Addr}(hp:p.block<a)(u:Value):tI (w.setCell p u) a v xs vs:=by
 refine⟨⟨h.own.1,?_⟩,λi hi=>?_⟩
 ·rcases h.own.2 with h1|⟨g,cap,cur,e1,e2,e3,e4⟩
  ·exact .inl h1
  ·exact .inr ⟨g,cap,cur,e1,e2,zh.far (t:=50) (cs:=cur) e3 za u,e4⟩
 ·obtain⟨B,m,d,hv,hw,hf⟩:=h.num i hi;exact⟨B,m,d,hv,aM hw (λhm ad e=>by have:=(hf hm ad e).1;omega) u,hf⟩
theorem tI.grow {n:Nat}(h:tI w a v xs vs)(hx:zo w x B m d)(hB:bG a v B m)
  (ho:w'.ownsRow a 50 1 v' n (vs++[.slice B m d])) (hn:n=xs.length+1) (hg:w.grownBy w' v.ownBlock) (ha:v'.ownBlock=v.ownBlock\/v'.ownBlock=some w.heap.size):tI w' a v' (xs++[x]) (vs++[.slice B m d]):=by
 have hl:=h.len;refine⟨by rw [qT,yI,<-hn];exact ho,λi hi=>?_⟩;rw [qT,yI] at hi;by_cases hlt:i<xs.length
 ·obtain⟨C,k,e,hv,hw,hf⟩:=h.num i hlt;obtain⟨h1,h2⟩:=hf.grow hw hg ha;refine⟨C,k,e,by rw [QH za];exact hv,?_,h2⟩;rw [qQ,QH hlt,<-qQ];exact h1
 ·have c:i=xs.length:=za;subst c;obtain⟨h1,h2⟩:=hB.grow hx hg ha;refine⟨B,m,d,by rw [QJ za,hl];simp,?_,h2⟩;rw [qQ,QJ (qX _)];simpa using h1
theorem mV (x y:Nat)(A D:ze)(n m c d:Nat)(w:World)(hA:zo w x A n c)(hD:zo w y D m d)(hn:n<=549755813888)(hm:m<=549755813888):
  Calls prog 164 #[.agg #[.slice A n c],.agg #[.slice D m d]] w (wh w (x+y)):=by
 obtain⟨i0,ae,am,an,ao⟩:=info_parts o6;have aj:=zb hA.len;have ai:=zb hD.len;have HA:=zj w (λw' hb=>hA.below hb);have HD:=zj w (λw' hb=>hD.below hb);obtain⟨N,hN⟩:∃N,max n m=N:=⟨_,rfl⟩;have hN1:n<=N:=za;have hN2:m<=N:=za;have hN3:N<=549755813888:=za;obtain⟨Z,hZ⟩:∃Z,madeCells (Value.cells (.int .u64 0)) ((N+1)*i0.size)=Z:=⟨_,rfl⟩;have HZ:zd (Z.size=N+1):=by show _=_;rw [<-hZ,size_madeCells,an,xS]
 have ak:∀W:World,(Instr.makeSlice 48 (.int .i64 ((N:Int)+1)) (.int .i64 ((N:Int)+1))).run prog W=.ok (.slice (some ⟨W.heap.size,0,none⟩) (N+1) (N+1)) (W.alloc (.cells Z 125)):=λW=>by
  rw [<-hZ];exact sV _ _ i0 _ underlying48 ae am _ _ (N+1) (N+1) (qX _) (by rw [ao];omega) za W
 have al:IntKind.i64.wrap ((N:Int)+1)=(N:Int)+1:=QS _ za;have O:(if (n:Int)<(m:Int) then(m:Int) else(n:Int))=(N:Int):=by split<;>omega
 have P:(if n<m then(m:Int) else(n:Int))=(N:Int):=by split<;>omega
 have Q:(if (m:Int)>(n:Int) then(m:Int) else(n:Int))=(N:Int):=by split<;>omega
 clear hZ hA hD hN;go_enter func164,ntmps164;go_wp2_with fail;generalize hW:((w.alloc (.cells #[.slice A n c] 50)).alloc (.cells #[.slice D m d] 50)).alloc (.cells #[.slice none 0 0] 50)=W0;obtain⟨b1,b2,b3,b4,b5⟩:=yF w 50 50 50 #[.slice A n c] #[.slice D m d] #[.slice none 0 0];rw [hW] at b1 b2 b3 b4 b5;have g1:W0.cell? ⟨w.heap.size,0,none⟩=some (.slice A n c):=b2.cell 0;have g2:W0.cell? ⟨w.heap.size+1,0,none⟩=some (.slice D m d):=b3.cell 0;clear hW b2 b3;have t:=b1.drew;have z:=b4.drew
 go_region_held3 (fun w' => Below w.heap.size w w' ∧ w'.cell? ⟨w.heap.size,0,none⟩ = some (.slice A n c) ∧ w'.cell? ⟨w.heap.size + 1,0,none⟩ = some (.slice D m d) ∧ zh w' (w.heap.size + 1 + 1) 50 #[.slice none 0 0])
  (first|(exact⟨t,g1,g2,z⟩)|(go_split_ands;(repeat' apply And.intro);all_goals (first|exact zl|exact zc zl hb|exact zq hb zl|exact zg hb zl|exact xx _ zl|exact wi _ zl|exact zh.alloc zl _|exact zB _ (by simp;omega) zl|exact zW _ (by simp;omega) zl|exact zh.far zl (by simp;omega) _)))
  (first
    |(go_at_call 104;refine(ui x _ _ _ _).mono ?_;rintro e w' ⟨rfl,hb⟩))
 rename_i w1 hb1 hH
 obtain⟨hB,g1,g2,hk⟩:=hH;have hgs:w.heap.size+3<=w'.heap.size:=by
  have h1:=hb1.size;have h2:=hb.size;have h3:W0.drew.heap.size=W0.heap.size:=rfl;omega
 have K:=zh.new w' 125 Z;generalize w'.alloc (.cells Z 125)=W1 at*;generalize w'.heap.size=gs at*;clear ak O P Q hb hb1 t z b1 b4 b5 al;go_wp2_with fail
 go_loopg [6,7,17] (N + 2) (fun g v _ i wr => ∃ (k cc : Nat) (cs : Array Value) (out : List Nat),k ≤ N + 1 ∧ N + 1 < g + k ∧ i = .int .i64 k ∧ v = .int .u64 cc ∧ vZ x y k out cc ∧ cs.size = N + 1 ∧ cs.toList.take k = zt .u64 out ∧ zh wr gs 125 cs ∧
   Below w.heap.size w wr/\wr.cell? ⟨w.heap.size,0,none⟩=some (.slice A n c)/\wr.cell? ⟨w.heap.size+1,0,none⟩=some (.slice D m d)/\zh wr (w.heap.size+1+1) 50 #[.slice none 0 0])
 case atStart=>exact⟨0,0,Z,[],za,za,rfl,rfl,vZ.start x y,HZ.o,rfl,K,hB,g1,g2,hk⟩
 case round=>
  clear hB g1 g2 hk K;obtain⟨k,cc,cs,out,hk,hg,rfl,rfl,j,hsz,F,C,hB,g1,g2,B⟩:=hrel;have M:=j.carry;by_cases hlt:k<N+1
  ·have E:=j.step (s:=wd x k+wd y k+cc) rfl;have aa:=wX x k;have ab:=wX y k;have WX:=zj w (λw' h=>jp x A n c k w' (HA.o w' h));have WY:=zj w (λw' h=>jp y D m d k w' (HD.o w' h));obtain⟨a,ha⟩:∃a,wd x k=a:=⟨_,rfl⟩;obtain⟨b,hb⟩:∃a,wd y k=a:=⟨_,rfl⟩;rw [ha] at WX aa E;rw [hb] at WY ab E;have WA:∀w',Calls prog 174 #[.int .u64 a,.int .u64 b,.int .u64 cc] w' λe U=>e=.returned (.tuple #[.int .u64 (((a+b+cc)%18446744073709551616:Nat):Int),.int .u64 (((a+b+cc) / 18446744073709551616:Nat):Int)])/\w'=U:=λw'=>by
    rw [<-Ub M,<-Ua M];exact TT a b cc ⟨za,za⟩ ⟨za,za⟩ ⟨za,za⟩ w'
   have H:=zb E;have I:=zb hsz;have V:=zb F;obtain⟨s1,e1⟩:∃s1,(a+b+cc)%18446744073709551616=s1:=⟨_,rfl⟩;obtain⟨s2,e2⟩:∃s2,(a+b+cc) / 18446744073709551616=s2:=⟨_,rfl⟩;rw [e1,e2] at WA H;have X:=zb WA;obtain⟨u,hu⟩:∃u,cs[k]?=some u:=⟨cs[k]' za,QU za⟩;have HU:=zb hu;clear WA E ha hb e1 e2 j F hu hsz;have i1:(0:Int)<=(k:Int):=za;have i2:(k:Int)<(N:Int)+1:=za;go_wp2_with fail;have t:=hB.drew;have z:=B.drew;have ac:=C.drew
   go_region_held3 (λw'=>Below w.heap.size w w'/\w'.cell? ⟨w.heap.size,0,none⟩=some (.slice A n c)/\w'.cell? ⟨w.heap.size+1,0,none⟩=some (.slice D m d)/\zh w' (w.heap.size+1+1) 50 #[.slice none 0 0])
   (first | (exact ⟨t,g1,g2,z⟩) | (go_split_ands; (repeat' apply And.intro); all_goals (first | exact zl | exact zc zl hb | exact zq hb zl | exact zg hb zl | exact xx _ zl | exact wi _ zl | exact zh.alloc zl _ | exact zB _ (by simp; omega) zl | exact zW _ (by simp; omega) zl | exact zh.far zl (by simp; omega) _)))
     (first
       |(go_at_call 145;with_reducible refine(WX.o _ (by first|exact zl|exact XO zl)).mono ?_;rintro e w' ⟨rfl,hb⟩;have o:zh w' gs 125 cs:=zg hb zl;have q1:=(o.cell k).trans HU.o;have q2:=o.frozen k)
       |(go_at_call 145;with_reducible refine(WY.o _ (by first|exact zl|exact XO zl)).mono ?_;rintro e w' ⟨rfl,hb⟩;have o:zh w' gs 125 cs:=zg hb zl;have q1:=(o.cell k).trans HU.o;have q2:=o.frozen k)
       |(go_at_call 174;with_reducible refine(X.o _).mono ?_;rintro e U ⟨rfl,rfl⟩))
   rename_i hH
   obtain⟨Y,g3,g4,af⟩:=hH;have ag:=o.set_ k (.int .u64 s1);clear hb o q1 q2 t z ac hB g1 g2 B C;go_wp2;go_roundg (N+1 - k)
   case measure=>omega
   case rel=>exact⟨k+1,s2,_,_,za,za,by go_num,rfl,H.o,by simpa using I.o,by rw [Xx _ _ _ (by have:=I.o;omega),V.o,dR],ag,Y,g3,g4,af⟩
  ·have ah:k=N+1:=za;subst ah;have e:=j.done (by have:=aj.o;omega) (by have:=ai.o;omega);have R:out.length=N+1:=j.len;have T:=cG (some ⟨gs,0,none⟩) (N+1) (N+1) wr.heap.size out wr (iF C hsz F R) j.dgs (qX _) za za;rw [e] at T;have HT:=zb T;have ad:wr.cell? ⟨w.heap.size+1+1,0,none⟩=some (.slice none 0 0):=B.cell 0;have hf1:=B.frozen 0;clear T C hsz F j e R B g1 g2;go_wp2_with fail;refine HT.o.mono ?_;rintro e w2 ⟨A1,c1,rfl,S,h1,h2,J,rfl⟩;have G:=aX hB (p:=w.heap.size+1+1) (gs:=gs) za za S h1 h2 J za (.slice A1 (dg 18446744073709551616 (x+y)).length c1);have HG:zd (wh w (x+y) (.returned (.agg #[.slice A1 (dg 18446744073709551616 (x+y)).length c1])) (wr.setCell ⟨w.heap.size+1+1,0,none⟩ (.slice A1 (dg 18446744073709551616 (x+y)).length c1))):=⟨_,_,_,rfl,G.2.1,G.1,G.2.2⟩;clear G S h1 h2 J;obtain⟨L,hL⟩:∃L,(dg 18446744073709551616 (x+y)).length=L:=⟨_,rfl⟩;rw [hL] at HG⊢;clear hL;go_wp2;refine bodyPost_ret (v:=.agg #[.slice A1 L c1]) (by simp [results,results164,go_sem,ad]) rfl ?_;exact HG.o
theorem PF (x y:Nat)(A D:ze)(n m c d:Nat)(w:World)(hA:zo w x A n c)(hD:zo w y D m d)(hn:n<=549755813888)(hm:m<=549755813888)(a:x<y):
  Calls prog 165 #[.agg #[.slice A n c],.agg #[.slice D m d]] w (fs w 0 false):=by
 have CC:=zj w (λw' hb=>iT x y A D n m c d w' (hA.below hb) (hD.below hb) za za);rw [sh a] at CC;clear hA hD a;go_enter func165,ntmps165;go_wp2_with fail;generalize hW:((w.alloc (.cells #[.slice A n c] 50)).alloc (.cells #[.slice D m d] 50)).alloc (.cells #[.slice none 0 0] 50)=W0;obtain⟨b1,b2,b3,b4,b5⟩:=yF w 50 50 50 #[.slice A n c] #[.slice D m d] #[.slice none 0 0];rw [hW] at b1 b2 b3 b4 b5;clear hW b2 b3;refine(CC.o _ b1).mono ?_;rintro e w1 ⟨rfl,hb⟩;have hB:=zc b1 hb;have hk:=zg hb b4;have g:w1.cell? ⟨w.heap.size+1+1,0,none⟩=some (.slice none 0 0):=hk.cell 0;have hf1:=hk.frozen 0;have HG:zd (fs w 0 false (.returned (.tuple #[.agg #[.slice none 0 0],.bool false])) (w1.setCell ⟨w.heap.size+1+1,0,none⟩ (.slice none 0 0))):=⟨_,_,_,rfl,Ym _,zB _ (by show _<=w.heap.size+1+1;omega) hB,sH.none_ _⟩;clear hB hk hb b1 b4;go_wp2;refine bodyPost_ret (v:=.tuple #[.agg #[.slice none 0 0],.bool false]) (by simp [results,results165,go_sem,g]) rfl ?_;exact HG.o
theorem SK (x y:Nat)(A D:ze)(n m c d:Nat)(w:World)(hA:zo w x A n c)(hD:zo w y D m d)(hn:n<=549755813888)(hm:m<=549755813888)(F:y<=x):
  Calls prog 165 #[.agg #[.slice A n c],.agg #[.slice D m d]] w (fs w (x - y) true):=by
 obtain⟨i0,ai,aq,ar,au⟩:=info_parts o6;have am:=zb hA.len;have HA:=zj w (λw' hb=>hA.below hb);have HD:=zj w (λw' hb=>hD.below hb);have X:=zb F;have E:=Wj F;have CC:=(λw' (hb:Below w.heap.size w w')=>iT x y A D n m c d w' (hA.below hb) (hD.below hb) za za);obtain⟨z,hz⟩:∃z,yg x y=z:=⟨_,rfl⟩;rw [hz] at CC E;have HC:=zb CC;have hzl:¬ z<0:=za;have hzd:decide (z<0)=false:=by simpa using E
 obtain⟨Z,hZ⟩:∃Z,madeCells (Value.cells (.int .u64 0)) (n*i0.size)=Z:=⟨_,rfl⟩;have HZ:zd (Z.size=n):=by show _=_;rw [<-hZ,size_madeCells,ar,xS]
 have an:∀W:World,(Instr.makeSlice 48 (.int .i64 (n:Int)) (.int .i64 (n:Int))).run prog W=.ok (.slice (some ⟨W.heap.size,0,none⟩) n n) (W.alloc (.cells Z 125)):=λW=>by
  rw [<-hZ];exact sV _ _ i0 _ underlying48 ai aq _ _ n n (qX _) (by rw [au];omega) za W
 clear hZ hA hD F CC hz;go_enter func165,ntmps165;go_wp2_with fail;generalize hW:((w.alloc (.cells #[.slice A n c] 50)).alloc (.cells #[.slice D m d] 50)).alloc (.cells #[.slice none 0 0] 50)=W0;obtain⟨b1,b2,b3,b4,b5⟩:=yF w 50 50 50 #[.slice A n c] #[.slice D m d] #[.slice none 0 0];rw [hW] at b1 b2 b3 b4 b5;have g1:W0.cell? ⟨w.heap.size,0,none⟩=some (.slice A n c):=b2.cell 0;have g2:W0.cell? ⟨w.heap.size+1,0,none⟩=some (.slice D m d):=b3.cell 0;clear hW b2 b3;refine(HC.o _ b1).mono ?_;rintro e w1 ⟨rfl,hb⟩;have hB:=zc b1 hb;have hk:=zg hb b4;have g3:=zq hb g1;have g4:=zq hb g2;have ao:=hb.size;clear hb g1 g2 b1 b4;go_wp2_with fail;refine(ui x _ _ _ _).mono ?_;rintro e w2 ⟨rfl,hb⟩;have hB:=zc hB hb;have hk:=zg hb hk;have g1:=zq hb g3;have g2:=zq hb g4;have ap:=hb.size;have hgs:w.heap.size+3<=w2.heap.size:=za;clear hb g3 g4 ao ap b5;go_wp2_with fail;have K:=zh.new w2 125 Z;have hB:=xx (.cells Z 125) hB;have hk:=hk.alloc (.cells Z 125);have g1:=wi (.cells Z 125) g1;have g2:=wi (.cells Z 125) g2;generalize w2.alloc (.cells Z 125)=W1 at*;generalize w2.heap.size=gs at*;clear an
 go_loopg [7,8,19] (n + 1) (fun g v _ i wr => ∃ (k cc : Nat) (cs : Array Value) (out : List Nat),k ≤ n ∧ n < g + k ∧ i = .int .i64 k ∧ v = .int .u64 cc ∧ ud x y k out cc ∧ cs.size = n ∧ cs.toList.take k = zt .u64 out ∧ zh wr gs 125 cs ∧
   Below w.heap.size w wr/\wr.cell? ⟨w.heap.size,0,none⟩=some (.slice A n c)/\wr.cell? ⟨w.heap.size+1,0,none⟩=some (.slice D m d)/\zh wr (w.heap.size+1+1) 50 #[.slice none 0 0])
 case atStart=>exact⟨0,0,Z,[],za,za,rfl,rfl,ud.start x y,HZ.o,rfl,K,hB,g1,g2,hk⟩
 case round=>
  clear hB g1 g2 hk K;obtain⟨k,cc,cs,out,hk,hg,rfl,rfl,j,hsz,C,s,hB,g1,g2,o⟩:=hrel;have ah:=j.lack;by_cases hlt:k<n
  ·have B:=λd c'=>j.step (d:=d) (c':=c');have M:=wX x k;have N:=wX y k;have J:=(HA.o wr hB).1;obtain⟨ad,rfl,O,hx⟩:=wQ J hlt;have hadw:ad.block<w.heap.size:=by
    obtain⟨ad',e,ae,_⟩:=(HA.o w (qZ _ _)).1.2 za;cases e;exact ae
   rw [nD] at hx;have WY:=zj w (λw' h=>jp y D m d k w' (HD.o w' h));obtain⟨a,ha⟩:∃a,wd x k=a:=⟨_,rfl⟩;obtain⟨b,hb⟩:∃a,wd y k=a:=⟨_,rfl⟩;rw [ha] at hx M B;rw [hb] at WY N B;obtain⟨s1,s2,e1,e2,e3,e4,e5⟩:=Wb M N ah;have WA:∀w',Calls prog 175 #[.int .u64 a,.int .u64 b,.int .u64 cc] w' λe V=>e=.returned (.tuple #[.int .u64 (s1:Int),.int .u64 (s2:Int)])/\w'=V:=λw'=>by
    rw [<-e1,<-e2];exact Sb a b cc ⟨za,za⟩ ⟨za,za⟩ ⟨za,za⟩ w'
   have Y:=zb (B s1 s2 e3 e4 e5);have H:=zb hsz;have aa:=zb C;have ab:=zb WA;obtain⟨u,hu⟩:∃u,cs[k]?=some u:=⟨cs[k]' za,QU za⟩;have HU:=zb hu;clear WA B ha hb e1 e2 e3 e4 e5 j C hu hsz J O;have i1:(0:Int)<=(k:Int):=za;have i2:(k:Int)<(n:Int):=za;go_wp2_with fail;have P:=hB.drew;have Q:=o.drew;have af:=s.drew;have U:wr.drew.cell? (ad.add k)=some (.int .u64 a):=hx
   go_region_held3 (fun w' => Below w.heap.size w w' ∧ w'.cell? ⟨w.heap.size,0,none⟩ = some (.slice (some ad) n c) ∧ w'.cell? ⟨w.heap.size + 1,0,none⟩ = some (.slice D m d) ∧ zh w' (w.heap.size + 1 + 1) 50 #[.slice none 0 0] ∧ w'.cell? (ad.add k) = some (.int .u64 a))
    (first|(exact⟨P,g1,g2,Q,U⟩)|(go_split_ands;(repeat' apply And.intro);all_goals (first|exact zl|exact zc zl hb|exact zq hb zl|exact zg hb zl|exact xx _ zl|exact wi _ zl|exact zh.alloc zl _|exact zB _ (by simp;omega) zl|exact zW _ (by simp;omega) zl|exact zW _ (by rw [yw];simp;omega) zl|exact zh.far zl (by simp;omega) _)))
    (first
      |(go_at_call 145;with_reducible refine(WY.o _ (by first|exact zl|exact XO zl)).mono ?_;rintro e w' ⟨rfl,hb⟩;have t:zh w' gs 125 cs:=zg hb zl;have q1:=(t.cell k).trans HU.o;have q2:=t.frozen k)
      |(go_at_call 175;with_reducible refine(ab.o _).mono ?_;rintro e V ⟨rfl,rfl⟩))
   rename_i hH
   obtain⟨ac,g3,g4,aj,_⟩:=hH;have ak:=t.set_ k (.int .u64 s1);clear hb t q1 q2 P Q af hB g1 g2 o s hx U;go_wp2;go_roundg (n - k)
   case measure=>omega
   case rel=>exact⟨k+1,s2,_,_,za,za,by go_num,rfl,Y.o,by simpa using H.o,by rw [Xx _ _ _ (by have:=H.o;omega),aa.o,dR],ak,ac,g3,g4,aj⟩
  ·have al:k=n:=za;subst al;have e:=j.done X.o (by have:=am.o;omega);have R:out.length=k:=j.len;have T:=cG (some ⟨gs,0,none⟩) k k wr.heap.size out wr (iF s hsz C R) j.dgs (qX _) za za;rw [e] at T;have HT:=zb T;have ag:wr.cell? ⟨w.heap.size+1+1,0,none⟩=some (.slice none 0 0):=o.cell 0;have hf1:=o.frozen 0;clear T s hsz C j e R o g1 g2;go_wp2_with fail;refine HT.o.mono ?_;rintro e w2 ⟨A1,c1,rfl,S,h1,h2,I,rfl⟩;have G:=aX hB (p:=w.heap.size+1+1) (gs:=gs) za za S h1 h2 I za (.slice A1 (dg 18446744073709551616 (x - y)).length c1);have HG:zd (fs w (x - y) true (.returned (.tuple #[.agg #[.slice A1 (dg 18446744073709551616 (x - y)).length c1],.bool true])) (wr.setCell ⟨w.heap.size+1+1,0,none⟩ (.slice A1 (dg 18446744073709551616 (x - y)).length c1))):=⟨_,_,_,rfl,G.2.1,G.1,G.2.2⟩;clear G S h1 h2 I;obtain⟨L,hL⟩:∃L,(dg 18446744073709551616 (x - y)).length=L:=⟨_,rfl⟩;rw [hL] at HG⊢;clear hL;go_wp2;refine bodyPost_ret (v:=.tuple #[.agg #[.slice A1 L c1],.bool true]) (by simp [results,results165,go_sem,ag]) rfl ?_;exact HG.o
