/- What this claim leans on. -/
import Derived.Test.YtghpdeciaaagnaaGreatDoorQBunM
import Derived.IntWalk
namespace Go.Proofs.YtghpdeciaaagnaaGreatDoor
open Go Go.RowKit Go.Proofs.Tryz
set_option maxHeartbeats 16000000
set_option maxRecDepth 100000
set_option linter.unusedVariables false
theorem zdD (x:Nat)(A:oA9)(n c:Nat)(w:World)(h:zad w x A n c)(hn:n<=1099511627776):
  Calls prog 146 #[.agg #[.slice A n c]] w (zfG w n (zaF .u64 (dg 18446744073709551616 x))):=by
 obtain⟨hr,h1,h2⟩:=h;have a:=hr.len_;have C:∀o,Calls prog 189 #[.slice A n c] (w.alloc o) (zfG w n (zaF .u64 (dg 18446744073709551616 x))):=λo=>by
  have d:=((hr.alloc (Nat.le_refl _) o).more (B':=(w.alloc o).heap.size) si9);rcases A with _|ad
  ·have b:n=0:=by
    rcases Nat.eq_zero_or_pos n with h|h
    ·exact h
    ·obtain⟨ad,e,_⟩:=hr.2 h;cases e
   subst b;have hl:zaF .u64 (dg 18446744073709551616 x)=[]:=by rw [List.eq_nil_of_length_eq_zero a];rfl
   rw [hl];exact(zkf c _).mono λe w' ⟨he,hw⟩=>⟨_,he,World.ownsRow_nil _ _ _ _,by rw [<-hw];exact(Below.refl _ w).alloc (Nat.le_refl _) o⟩
  ·refine(zgE ad n c _ (w.alloc o) d hn).mono λe w' ⟨v,he,ho,hb⟩=>?_;refine⟨v,he,⟨ho.1,?_⟩,((Below.refl _ w).alloc (Nat.le_refl _) o).trans (hb.mono si9)⟩;rcases ho.2 with h|⟨g,cap,cur,e1,e2,e3⟩
   ·exact .inl h
   ·exact .inr ⟨g,cap,cur,e1,Nat.le_trans si9 e2,e3⟩
 obtain⟨L,hL⟩:∃L,zaF .u64 (dg 18446744073709551616 x)=L:=⟨_,rfl⟩;rw [hL] at C⊢;have HC:=lh9 C;clear C hr a hL;go_enter func146,ntmps146;go_wp2_with fail;refine(HC.out _).mono ?_;intro e w1 hg;have G:=lh9 hg;obtain⟨v,rfl,_,_⟩:=hg;go_wp2;go_ret;exact G.out
def zaq (w:World)(t:TypeId)(g cap n:Nat)(L:List Nat):Prop:=
 ∃cur,Blk w g t cur/\n<=cap/\cap<=maxLen/\cur.size=cap/\L.length=n/\cur.toList.take n=zaF .u64 L
section
variable {w w':World}{t:TypeId}{g cap n:Nat}{L:List Nat}
theorem zaq.len (h:zaq w t g cap n L):L.length=n:=by obtain⟨_,_,_,_,_,h,_⟩:=h;exact h
theorem zaq.room (h:zaq w t g cap n L):n<=cap/\cap<=maxLen:=by obtain⟨_,_,h,h2,_⟩:=h;exact⟨h,h2⟩
theorem zaq.lt (h:zaq w t g cap n L):g<w.heap.size:=by obtain⟨_,h,_⟩:=h;exact h.lt
theorem zdc (k:IntKind)(l:List Nat)(i:Nat)(h:i<l.length):(zaF k l)[i]?=some (.int k (l.getD i 0:Nat)):=by
 simp [zaF,List.getD,List.getElem?_eq_getElem h]
theorem zaq.cell (h:zaq w t g cap n L)(k:Nat)(hk:k<n):w.cell? ⟨g,k,none⟩=some (.int .u64 (L.getD k 0:Nat)):=by
 obtain⟨cur,hb,h1,h2,h3,h4,h5⟩:=h;rw [hb.cell k,<-Array.getElem?_toList,<-zdc .u64 L k om9,<-h5,List.getElem?_take,if_pos hk]
theorem zaq.frozen (h:zaq w t g cap n L)(k:Nat):w.frozen? ⟨g,k,none⟩=false:=by
 obtain⟨cur,hb,_⟩:=h;exact hb.frozen k
theorem zaq.set_ (h:zaq w t g cap n L)(k d:Nat)(hk:k<n):zaq (w.setCell ⟨g,k,none⟩ (.int .u64 (d:Int))) t g cap n (L.set k d):=by
 obtain⟨cur,hb,h1,h2,h3,h4,h5⟩:=h;refine⟨_,hb.set_ k _,h1,h2,by simpa using h3,by simpa using h4,?_⟩;rw [Array.toList_setIfInBounds,List.take_set,h5];unfold zaF;rw [List.map_set]
theorem zaq.below {B:Nat}(h:zaq w t g cap n L)(hb:Below B w w')(hg:g<B):zaq w' t g cap n L:=by
 obtain⟨a,h0,h1⟩:=h;exact⟨a,h0.below hb hg,h1⟩
theorem zaq.keep (h:zaq w t g cap n L)(hb:Below w.heap.size w w'):zaq w' t g cap n L:=h.below hb h.lt
theorem zaq.drew (h:zaq w t g cap n L):zaq w.drew t g cap n L:=h
theorem zaq.alloc (h:zaq w t g cap n L)(o:Obj):zaq (w.alloc o) t g cap n L:=by
 obtain⟨a,h0,h1⟩:=h;exact⟨a,h0.alloc o,h1⟩
theorem zaq.far (h:zaq w t g cap n L){p:Addr}(hp:g≠p.block)(u:Value):zaq (w.setCell p u) t g cap n L:=by
 obtain⟨a,h0,h1⟩:=h;exact⟨a,h0.far hp u,h1⟩
theorem zaq.reads (h:zaq w t g cap n L):zaw w w.heap.size 1 (some ⟨g,0,none⟩) n (zaF .u64 L):=by
 have hl:=h.lt;have hc:=h.cell;have hn:=h.len;refine⟨by rw [zaL];omega,λ_=>⟨_,rfl,hl,λj u hu=>?_⟩⟩;have hj:j<L.length:=by
  rcases Nat.lt_or_ge j L.length with hj|hj
  ·exact hj
  ·rw [List.getElem?_eq_none (by rw [zaL];exact hj)] at hu;cases hu
 have e:(⟨g,0,none⟩:Addr).add j=⟨g,j,none⟩:=by unfold Addr.add;split<;>simp_all
 rw [e,hc j om9,<-zdc .u64 L j hj,hu]
theorem zaq.own (h:zaq w t g cap n L){a:Nat}(hb:a<=g):w.ownsRow a t 1 (.slice (some ⟨g,0,none⟩) n cap) n (zaF .u64 L):=by
 obtain⟨b,h0,h1,h2,h3,h4,h5⟩:=h;exact⟨by rw [zaL];omega,.inr ⟨g,cap,b,rfl,hb,h0,h1,h2,om9,by rw [Nat.mul_one];exact h5⟩⟩
theorem zaq.made (w:World)(t:TypeId)(N:Nat)(hN:N<=maxLen):zaq (w.alloc (.cells (madeCells (Value.cells (.int .u64 0)) N) t)) t w.heap.size N N (List.replicate N 0):=by
 refine⟨_,Blk.new w t _,Nat.le_refl _,hN,size_madeCells _ _,si9,?_⟩;show(madeCells #[Value.int .u64 0] N).toList.take N=_;rw [toList_madeCells_one,List.take_of_length_le si9];simp [zaF]
theorem zaq.of_own {f:Nat}{v:Value}{l:List Nat}(h:w.ownsRow f t 1 v n (zaF .u64 l))(hn:0<n):∃g cap,v=.slice (some ⟨g,0,none⟩) n cap/\f<=g/\zaq w t g cap n l:=by
 obtain⟨h1,h2⟩:=h;rcases h2 with⟨_,h⟩|⟨g,cap,cur,e,hb,hk,a,b,c,d⟩
 ·omega
 ·refine⟨g,cap,e,hb,cur,hk,a,b,om9,by rw [zaL] at h1;omega,?_⟩;rw [Nat.mul_one] at d;exact d
end
theorem zaw.of_grown_own {w:World}{f n:Nat}{t:TypeId}{v:Value}{xs:List Value}(h:w.ownsRow f t 1 v n xs):∃A c,v=.slice A n c/\n<=c/\c<=maxLen/\zaw w w.heap.size 1 A n xs:=by
 have h0:=h;obtain⟨h1,h2⟩:=h;rcases h2 with⟨e,hn⟩|⟨g,cap,cur,e,hb,hk,a,b,c,d⟩
 ·subst hn;exact⟨none,0,e,Nat.le_refl _,by unfold maxLen;omega,by subst e;exact zaw.of_own h0⟩
 ·exact⟨_,_,e,a,b,by subst e;exact zaw.of_own h0⟩
structure zlj (w:World)(A:oA9)(n c:Nat)(xs:List Nat):Prop where
 len:xs.length=n
 fits:n<=c
 most:c<=9223372036854775807
 num:∀i,i<n->∃(ad:Addr) (B:oA9) (m d:Nat),A=some ad/\ad.block<w.heap.size/\w.cell? (ad.add i)=some (.slice B m d)/\zad w (xs.getD i 0) B m d
theorem zlj.below {w w':World}{A:oA9}{n c:Nat}{xs:List Nat}(h:zlj w A n c xs)(hb:Below w.heap.size w w'):zlj w' A n c xs:=
 ⟨h.len,h.fits,h.most,λi hi=>by
  obtain⟨ad,B,m,d,e,h1,h2,h3⟩:=h.num i hi;exact⟨ad,B,m,d,e,Nat.lt_of_lt_of_le h1 hb.size,zac hb h2,h3.below hb⟩⟩
theorem zfx {w:World}{A:oA9}{n c x:Nat}(h:zad w x A n c){p:Addr}(hp:0<n->∀ad,A=some ad->ad.block≠p.block)(u:Value):zad (w.setCell p u) x A n c:=by
 by_cases hn:0<n
 ·exact zdd h (hp hn) u
 ·exact⟨⟨h.1.1,λh0=>absurd h0 hn⟩,h.2⟩
theorem ziv {w w':World}{x:Nat}{B:oA9}{m d:Nat}(h:zad w x B m d){row:Option Nat}(hg:w.grownBy w' row)(hr:0<m->∀ad,B=some ad->some ad.block≠row):zad w' x B m d:=by
 obtain⟨a,h1,h2⟩:=h;refine⟨⟨a.1,λhn=>?_⟩,h1,h2⟩;obtain⟨ad,e,hb,hc⟩:=a.2 hn;refine⟨ad,e,Nat.lt_of_lt_of_le hb hg.size,λj u hu=>?_⟩;exact(World.cell?_of_block (hg.block _ (by rw [zah];exact hb) (by rw [zah];exact hr hn ad e))).trans (hc j u hu)
theorem zmb {w:World}{A:oA9}{n c x g:Nat}{t:TypeId}{a:oA9}{b d:Nat}(h:zad w x A n c)(hk:Blk w g t #[.slice a b d]):0<n->∀ad,A=some ad->ad.block≠g:=λhn ad e hg=>by
 obtain⟨ad',e',_,hc⟩:=h.1.2 hn;rw [e] at e';injection e' with e';subst e';have hl:=h.len;have h0:=hc 0 (.int .u64 ((dg 18446744073709551616 x).getD 0 0:Nat)) (zdc .u64 _ 0 om9);have e0:ad.add 0=ad:=by unfold Addr.add;rw [if_pos rfl]
 rw [e0] at h0;obtain⟨bk,off,pr⟩:=ad;simp only at hg;subst hg;unfold Blk at hk;cases pr with
 |none=>
   rw [show w.cell? ⟨bk,off,none⟩=#[Value.slice a b d][off]? from cell_of_row w bk off _ t (0,0) hk] at h0
   match off,h0 with
   |0,h0=>simp at h0
   |o+1,h0=>simp at h0
 |some q=>simp [World.cell?,hk] at h0
theorem zeL {w:World}{A:oA9}{n c x g:Nat}{t:TypeId}{a:oA9}{b d:Nat}(h:zad w x A n c)(hk:Blk w g t #[.slice a b d])(u:Value):zad (w.setCell ⟨g,0,none⟩ u) x A n c:=
 zfx h (zmb h hk) u
theorem zap {w:World}{A:oA9}{n c x g:Nat}{a:oA9}{b d:Nat}(h:zad w x A n c)(hk:zcl w g (.slice a b d))(u:Value):zad (w.setCell ⟨g,0,none⟩ u) x A n c:=by
 obtain⟨t,hk⟩:=hk;exact zeL h hk u
def zmd (base:Nat)(v:Value)(B:oA9)(m:Nat):Prop:=0<m->∀ad,B=some ad->base<=ad.block/\v.ownBlock≠some ad.block
theorem zmd.grow {w w':World}{a x m d:Nat}{v v':Value}{B:oA9}(h:zmd a v B m)(hx:zad w x B m d)(hg:w.grownBy w' v.ownBlock)(ha:v'.ownBlock=v.ownBlock\/v'.ownBlock=some w.heap.size):zad w' x B m d/\zmd a v' B m:=by
 refine⟨ziv hx hg (λhm ad e=>(h hm ad e).2.symm),λhm ad e=>⟨(h hm ad e).1,?_⟩⟩;rcases ha with ha|ha
 ·rw [ha];exact(h hm ad e).2
 ·rw [ha];obtain⟨ad',e',hlt,_⟩:=hx.1.2 hm;rw [e] at e';injection e' with e';subst e';intro hh;injection hh with hh;omega
structure zcn (w:World)(base:Nat)(v:Value)(xs:List Nat)(vs:List Value):Prop where
 own:w.ownsRow base 37 1 v xs.length vs
 num:∀i,i<xs.length->∃(B:oA9) (m d:Nat),vs[i]?=some (.slice B m d)/\zad w (xs.getD i 0) B m d/\zmd base v B m
theorem zcn.nil (w:World)(a:Nat):zcn w a (.slice none 0 0) [] []:=⟨World.ownsRow_nil _ _ _ _,λi hi=>by simp at hi⟩
theorem zcn.len {w:World}{a:Nat}{v:Value}{xs:List Nat}{vs:List Value}(h:zcn w a v xs vs):vs.length=xs.length:=by have:=h.own.1;omega
theorem zcn.shape {w:World}{a:Nat}{v:Value}{xs:List Nat}{vs:List Value}(h:zcn w a v xs vs):∃A c,v=.slice A xs.length c/\zlj w A xs.length c xs:=by
 obtain⟨A,c,e,h1,h2,h3⟩:=zaw.of_grown_own h.own;refine⟨A,c,e,rfl,h1,by unfold maxLen at h2;omega,λi hi=>?_⟩;obtain⟨B,m,d,hv,hw,_⟩:=h.num i hi;obtain⟨ad,ea,hb,hc⟩:=h3.2 om9;exact⟨ad,B,m,d,ea,hb,hc i _ hv,hw⟩
theorem zcn.below {w w':World}{a:Nat}{v:Value}{xs:List Nat}{vs:List Value}(h:zcn w a v xs vs)(hb:Below w.heap.size w w'):zcn w' a v xs vs:=by
 refine⟨⟨h.own.1,?_⟩,λi hi=>?_⟩
 ·rcases h.own.2 with h1|⟨g,cap,cur,e1,e2,e3,e4⟩
  ·exact .inl h1
  ·exact .inr ⟨g,cap,cur,e1,e2,(hb.block g (Blk.lt (t:=37) (cs:=cur) e3)).trans e3,e4⟩
 ·obtain⟨B,m,d,hv,hw,hf⟩:=h.num i hi;exact⟨B,m,d,hv,hw.below hb,hf⟩
theorem zcn.set_ {w:World}{a:Nat}{v:Value}{xs:List Nat}{vs:List Value}(h:zcn w a v xs vs){p:Addr}(hp:p.block<a)(u:Value):zcn (w.setCell p u) a v xs vs:=by
 refine⟨⟨h.own.1,?_⟩,λi hi=>?_⟩
 ·rcases h.own.2 with h1|⟨g,cap,cur,e1,e2,e3,e4⟩
  ·exact .inl h1
  ·exact .inr ⟨g,cap,cur,e1,e2,Blk.far (t:=37) (cs:=cur) e3 om9 u,e4⟩
 ·obtain⟨B,m,d,hv,hw,hf⟩:=h.num i hi;exact⟨B,m,d,hv,zfx hw (λhm ad e=>by have:=(hf hm ad e).1;omega) u,hf⟩
theorem zcn.grow {w w':World}{a n:Nat}{v v':Value}{xs:List Nat}{vs:List Value}{x:Nat}{B:oA9}{m d:Nat}(h:zcn w a v xs vs)(hx:zad w x B m d)(hB:zmd a v B m)
  (ho:w'.ownsRow a 37 1 v' n (vs++[.slice B m d])) (hn:n=xs.length+1) (hg:w.grownBy w' v.ownBlock) (ha:v'.ownBlock=v.ownBlock\/v'.ownBlock=some w.heap.size):zcn w' a v' (xs++[x]) (vs++[.slice B m d]):=by
 have hl:=h.len;refine⟨by rw [List.length_append,List.length_singleton,<-hn];exact ho,λi hi=>?_⟩;rw [List.length_append,List.length_singleton] at hi;by_cases hlt:i<xs.length
 ·obtain⟨C,k,e,hv,hw,hf⟩:=h.num i hlt;obtain⟨h1,h2⟩:=hf.grow hw hg ha;refine⟨C,k,e,by rw [List.getElem?_append_left om9];exact hv,?_,h2⟩;rw [List.getD_eq_getElem?_getD,List.getElem?_append_left hlt,<-List.getD_eq_getElem?_getD];exact h1
 ·have b:i=xs.length:=om9;subst b;obtain⟨h1,h2⟩:=hB.grow hx hg ha;refine⟨B,m,d,by rw [List.getElem?_append_right om9,hl];simp,?_,h2⟩;rw [List.getD_eq_getElem?_getD,List.getElem?_append_right (Nat.le_refl _)];simpa using h1
theorem zjz (p q r s:Nat)(hp:p<18446744073709551616)(hq:q<18446744073709551616)(hr:r<18446744073709551616)(hs:s<18446744073709551616)(w:World):
  Calls prog 165 #[.int .u64 p,.int .u64 q,.int .u64 r,.int .u64 s] w λe w'=>e=.returned (.tuple #[.int .u64 (((p*q+r+s) / 18446744073709551616:Nat):Int),.int .u64 (((p*q+r+s)%18446744073709551616:Nat):Int)])/\w=w':=by
 have h:=znI p q r s ⟨om9,om9⟩ ⟨om9,om9⟩ ⟨om9,om9⟩ ⟨om9,om9⟩ w;rw [(ma_nat p q r s).1,(ma_nat p q r s).2] at h;exact h
theorem zht (x y:Nat)(A D:oA9)(n m c d:Nat)(w:World)(hA:zad w x A n c)(hD:zad w y D m d)(hn:n<=274877906944)(hm:m<=274877906944):
  Calls prog 108 #[.agg #[.slice A n c],.agg #[.slice D m d]] w (zaS w (x*y)):=by
 obtain⟨i0,aa,af,ag,ah⟩:=info_parts zgD;have ab:=lh9 hA.len;have R:=lh9 hD.len;have HA:=up9 w (λw' hb=>hA.below hb);have HW:=(λw' (hb:Below w.heap.size w w')=>zds y D m d w' (hD.below hb) om9);unfold znO at HW;rw [R.out] at HW;have T:=lh9 HW;obtain⟨N,hN⟩:∃N,n+m=N:=⟨_,rfl⟩;have HN:=lh9 hN;have hN1:N<=549755813888:=om9;obtain⟨Z,hZ⟩:∃Z,madeCells (Value.cells (.int .u64 0)) N=Z:=⟨_,rfl⟩;have ac:∀W:World,(Instr.makeSlice 35 (.int .i64 ((n:Int)+(m:Int))) (.int .i64 ((n:Int)+(m:Int)))).run prog W=.ok (.slice (some ⟨W.heap.size,0,none⟩) N N) (W.alloc (.cells Z 160)):=λW=>by
  have h:=zbf _ _ i0 _ underlying35 aa af .i64 .i64 N N (Nat.le_refl _) (by rw [ah];omega) om9 W;rw [ag,Nat.mul_one,hZ] at h;rw [show(n:Int)+(m:Int)=(N:Int) from by omega];exact h
 have HZ:=lh9 hZ;clear hZ hA hD hN HW;go_enter func108,ntmps108;go_wp2_with fail;generalize hW:((w.alloc (.cells #[.slice A n c] 37)).alloc (.cells #[.slice D m d] 37)).alloc (.cells #[.slice none 0 0] 37)=W0;obtain⟨b1,b2,b3,b4,b5⟩:=zbT w 37 37 37 #[.slice A n c] #[.slice D m d] #[.slice none 0 0];rw [hW] at b1 b2 b3 b4 b5;have g1:W0.cell? ⟨w.heap.size,0,none⟩=some (.slice A n c):=b2.cell 0;clear hW b2 b3;refine(T.out _ b1).mono ?_;rintro e w1 ⟨A1,c1,rfl,f,_,⟨_,Y⟩,hb⟩;have hB:=zaa b1 hb;have g1:=zac hb g1;have hk:=zab hb b4;have F:w.heap.size+3<=w1.heap.size:=Nat.le_trans b5 hb.size;clear hb b1 b4 b5 Y;go_wp2_with fail;refine(zbS x _ _ _ _).mono ?_;rintro e w2 ⟨rfl,hb⟩;have hB:=zaa hB hb;have g1:=zac hb g1;have hk:=zab hb hk;have f:=(f.below hb).more hb.size;have F:w.heap.size+3<=w2.heap.size:=Nat.le_trans F hb.size;have U:=λo=>zam o g1;clear hb;go_wp2_with fail;have hR:zaq (w2.alloc (.cells Z 160)) 160 w2.heap.size N N (List.replicate N 0):=by
  have h:=zaq.made w2 160 N (by unfold maxLen;omega);rw [HZ.out] at h;exact h
 obtain⟨gs,C⟩:∃g,w2.heap.size=g:=⟨_,rfl⟩;have hB:=zaj (.cells Z 160) hB;have g1:=zam (.cells Z 160) g1;have hk:=hk.alloc (.cells Z 160);have f:=(f.alloc (Nat.le_refl _) (.cells Z 160)).more (B':=gs) om9;rw [C] at hR F;generalize w2.alloc (.cells Z 160)=W3 at*;rw [C];clear C ac U;refine(zbS x _ _ _ _).mono ?_;rintro e w4 ⟨rfl,hb⟩;have hB:=zaa hB hb;have g1:=zac hb g1;have hk:=zab hb hk;have f:=f.below (hb.mono (Nat.le_of_lt hR.lt));have hR:=hR.keep hb;have hI:=lh9 (ziT.start x y m N);clear hb;go_wp2_with fail
 go_loopg [22] (n+1) (λg ix wr=>∃(k:Nat) (L:List Nat),k<=n/\n<g+k/\ix=.int .i64 k/\ziT x y k m N L/\zaq wr 160 gs N N L/\Below w.heap.size w wr/\wr.cell? ⟨w.heap.size,0,none⟩=some (.slice A n c)/\Blk wr (w.heap.size+1+1) 37 #[.slice none 0 0]/\zaw wr gs 1 A1 m (zaF .u64 (dg 18446744073709551616 y)))
 case atStart=>exact⟨0,_,Nat.zero_le _,om9,rfl,hI.out,hR,hB,g1,hk,f⟩
 case round=>
  clear hB g1 hk f hR hI;obtain⟨k,L0,hkn,hg,rfl,hM,hR,hB,g1,hk,f⟩:=hrel;obtain⟨wo,ae⟩:∃wo,wo=wr:=⟨_,rfl⟩;subst ae;by_cases hlt:k<n
  ·have WX:=up9 w (λw' h=>zdL x A n c k w' (HA.out w' h));have ha:=zcs x k;have B:=lh9 (RowB.start y (wd x k) k hM.len hM.dgs);have z:=lh9 (λL c (h:RowB L0 y (wd x k) k m N L c)=>ziT.step hM h (by have:=R.out;omega) (by have:=HN.out;omega));obtain⟨a,J⟩:∃a,wd x k=a:=⟨_,rfl⟩;rw [J] at WX ha B z;clear J hM;go_wp2_with fail;refine(WX.out _ hB).mono ?_;rintro e w5 ⟨rfl,hb⟩;have hB:=zaa hB hb;have g1:=zac hb g1;have hk:=zab hb hk;have f:=f.below (hb.mono (Nat.le_of_lt hR.lt));have hR:=hR.keep hb;clear hb;go_wp2_with fail
   go_loopg [9,30] (m+1) (λg cy jx wr=>∃(j cc:Nat) (L:List Nat),j<=m/\m<g+j/\jx=.int .i64 j/\cy=.int .u64 cc/\RowB L0 y a k j N L cc/\zaq wr 160 gs N N L/\Below w.heap.size w wr/\wr.cell? ⟨w.heap.size,0,none⟩=some (.slice A n c)/\Blk wr (w.heap.size+1+1) 37 #[.slice none 0 0]/\zaw wr gs 1 A1 m (zaF .u64 (dg 18446744073709551616 y)))
   case atStart=>exact⟨0,0,L0,Nat.zero_le _,om9,rfl,rfl,B.out,hR,hB,g1,hk,f⟩
   case round=>
    clear hB g1 hk f hR B;obtain⟨j,cc,L,hjm,hg2,rfl,rfl,hI,hR,hB,g1,hk,f⟩:=hrel;by_cases hjl:j<m
    ·have i:=HN.out;obtain⟨ad,rfl,hadb,h1⟩:=zdy f (k:=j) hjl;rw [zeK] at h1;have hp:=hI.dgs.getD de9 (k+j);have h2:=hR.cell (k+j) om9;have h3:=hR.frozen (k+j);have K:=zcs y j;have X:=hI.carry;have r:=hI.step (s:=wd y j*a+L.getD (k+j) 0+cc) ha om9 rfl;obtain⟨b,M⟩:∃b,wd y j=b:=⟨_,rfl⟩;obtain⟨p,S⟩:∃b,L.getD (k+j) 0=b:=⟨_,rfl⟩;rw [M] at h1 K r;rw [S] at h2 hp r;have G:=lh9 (λw'=>zjz b a p cc K ha hp X w');obtain⟨s1,e1⟩:∃s1,(b*a+p+cc)%18446744073709551616=s1:=⟨_,rfl⟩;obtain⟨s2,e2⟩:∃s2,(b*a+p+cc) / 18446744073709551616=s2:=⟨_,rfl⟩;rw [e1,e2] at G r;have I:=lh9 r;have l:=lh9 (hR.set_ (k+j) s1 om9);obtain⟨q,hq⟩:∃q,k+j=q:=⟨_,rfl⟩;rw [hq] at h2 h3 I l;have i1:(0:Int)<=(k:Int)+(j:Int):=om9;have i2:(k:Int)+(j:Int)<(N:Int):=om9;have i3:((k:Int)+(j:Int)).toNat=q:=om9;have t:=λu=>zae (p:=⟨gs,q,none⟩) u (by show w.heap.size<=gs;omega) hB;have gS:=λu=>zag (p:=⟨w.heap.size,0,none⟩) (q:=⟨gs,q,none⟩) u (by show w.heap.size≠gs;omega) g1;have kS:=λu=>hk.far (p:=⟨gs,q,none⟩) (by show w.heap.size+1+1≠gs;omega) u;clear r M S e1 e2 hI hq i;go_wp2_with fail;refine(G.out _).mono ?_;rintro e w' ⟨rfl,rfl⟩;go_wp2;go_roundg (m - j)
     case measure=>omega
     case rel=>exact⟨j+1,s2,_,om9,om9,by go_num,rfl,I.out,l.out,t _,gS _,kS _,f.setCell (Nat.le_refl _) _⟩
    ·have P:j=m:=om9;subst P;have i:=HN.out;have h3:=hR.frozen (k+j);have H:=lh9 (z.out L cc hI);have l:=lh9 (hR.set_ (k+j) cc om9);obtain⟨u,hu⟩:∃u,wr.cell? ⟨gs,k+j,none⟩=some u:=⟨_,hR.cell (k+j) om9⟩;obtain⟨q,hq⟩:∃q,k+j=q:=⟨_,rfl⟩;rw [hq] at h3 H l hu;have i1:(0:Int)<=(k:Int)+(j:Int):=om9;have i2:(k:Int)+(j:Int)<(N:Int):=om9;have i3:((k:Int)+(j:Int)).toNat=q:=om9;have t:=λu=>zae (p:=⟨gs,q,none⟩) u (by show w.heap.size<=gs;omega) hB;have gS:=λu=>zag (p:=⟨w.heap.size,0,none⟩) (q:=⟨gs,q,none⟩) u (by show w.heap.size≠gs;omega) g1;have kS:=λu=>hk.far (p:=⟨gs,q,none⟩) (by show w.heap.size+1+1≠gs;omega) u;clear hI hq i z;go_wp2;go_roundg (n - k)
     case measure=>omega
     case rel=>exact⟨k+1,_,om9,om9,by go_num,H.out,l.out,t _,gS _,kS _,f.setCell (Nat.le_refl _) _⟩
  ·have Q:k=n:=om9;subst Q;have i:=HN.out;have e:=ziT.done (L:=L0) (by rw [i];exact hM) (by have:=ab.out;omega);have O:=zcZ (some ⟨gs,0,none⟩) N N L0 wo hR.reads hM.dgs (Nat.le_refl _) om9 om9;rw [e] at O;have HO:=lh9 O;clear O e i hM;go_wp2_with fail;refine HO.out.mono ?_;rintro e w' ⟨A2,n2,c2,rfl,hw,hb,hf⟩;have E:=zab hb hk;have V:w'.cell? ⟨w.heap.size+1+1,0,none⟩=some (.slice none 0 0):=E.cell 0;have hf1:=E.frozen 0;have hsz:=hR.lt;have HG : Hid (zaS w (x * y) (.returned (.agg #[.slice A2 n2 c2])) (w'.setCell ⟨w.heap.size + 1 + 1,0,none⟩ (.slice A2 n2 c2))) :=
    zhj hw (zaa hB hb) (by show _<=_;simp;omega) (λad e=>by have:=hf ad e;show ad.block≠_;simp;omega) (λad e=>by have:=hf ad e;omega) _
   clear hb hw hf E hsz hk hB g1 f hR;go_wp2;refine bodyPost_ret (v:=.agg #[.slice A2 n2 c2]) (by simp [results,results108,go_sem,V]) rfl ?_;exact HG.out
