/- What this claim leans on. -/
import Derived.Test.YtcojjcjgbepicaaGreatDoorSBunM
import Derived.IntWalk
namespace Go.Proofs.YtcojjcjgbepicaaGreatDoor
open Go Go.RowKit
set_option maxHeartbeats 16000000
set_option maxRecDepth 100000
set_option linter.unusedVariables false
theorem zdm (x:Nat)(A:oA9)(n c:Nat)(w:World)(h:zad w x A n c)(hn:n<=1099511627776):
  Calls Tryz.prog 150 #[.agg #[.slice A n c]] w (zeZ w n (zax .u64 (dg 18446744073709551616 x))):=by
 obtain⟨hr,h1,h2⟩:=h
 have hlen:=hr.len_
 have C:∀o,Calls Tryz.prog 186 #[.slice A n c] (w.alloc o) (zeZ w n (zax .u64 (dg 18446744073709551616 x))):=λo=>by
  have hro:=((hr.alloc (Nat.le_refl _) o).more (B':=(w.alloc o).heap.size) (by simp))
  rcases A with _|ad
  ·have hn0:n=0:=by
    rcases Nat.eq_zero_or_pos n with h|h
    ·exact h
    ·obtain⟨ad,e,_⟩:=hr.2 h
     cases e
   subst hn0
   have hl:zax .u64 (dg 18446744073709551616 x)=[]:=by rw [List.eq_nil_of_length_eq_zero hlen];rfl
   rw [hl]
   exact(zjt c _).mono λe w' ⟨he,hw⟩=>⟨_,he,World.ownsRow_nil _ _ _ _,by rw [<-hw];exact(Below.refl _ w).alloc (Nat.le_refl _) o⟩
  ·refine(zfW ad n c _ (w.alloc o) hro hn).mono λe w' ⟨v,he,ho,hb⟩=>?_
   refine⟨v,he,⟨ho.1,?_⟩,((Below.refl _ w).alloc (Nat.le_refl _) o).trans (hb.mono (by simp))⟩
   rcases ho.2 with h|⟨g,cap,cur,e1,e2,e3⟩
   ·exact .inl h
   ·exact .inr ⟨g,cap,cur,e1,Nat.le_trans (by simp) e2,e3⟩
 obtain⟨L,hL⟩:∃L,zax .u64 (dg 18446744073709551616 x)=L:=⟨_,rfl⟩
 rw [hL] at C⊢
 have HC:=lh9 C
 clear C hr hlen hL
 go_enter Tryz.func150,Tryz.ntmps150
 go_wp2_with fail
 refine(HC.out _).mono ?_
 intro e w1 hg
 have G:=lh9 hg
 obtain⟨v,rfl,_,_⟩:=hg
 go_wp2
 go_ret
 exact G.out
def zap (w:World)(t:TypeId)(g cap n:Nat)(L:List Nat):Prop:=
 ∃cur,Blk w g t cur/\n<=cap/\cap<=maxLen/\cur.size=cap/\L.length=n/\cur.toList.take n=zax .u64 L
section
variable {w w':World}{t:TypeId}{g cap n:Nat}{L:List Nat}
theorem zap.len (h:zap w t g cap n L):L.length=n:=by obtain⟨_,_,_,_,_,h,_⟩:=h;exact h
theorem zap.room (h:zap w t g cap n L):n<=cap/\cap<=maxLen:=by obtain⟨_,_,h,h2,_⟩:=h;exact⟨h,h2⟩
theorem zap.lt (h:zap w t g cap n L):g<w.heap.size:=by obtain⟨_,h,_⟩:=h;exact h.lt
theorem zcQ (k:IntKind)(l:List Nat)(i:Nat)(h:i<l.length):(zax k l)[i]?=some (.int k (l.getD i 0:Nat)):=by
 simp [zax,List.getD,List.getElem?_eq_getElem h]
theorem zap.cell (h:zap w t g cap n L)(k:Nat)(hk:k<n):w.cell? ⟨g,k,none⟩=some (.int .u64 (L.getD k 0:Nat)):=by
 obtain⟨cur,hb,h1,h2,h3,h4,h5⟩:=h
 rw [hb.cell k,<-Array.getElem?_toList,<-zcQ .u64 L k (by omega),<-h5,List.getElem?_take,if_pos hk]
theorem zap.frozen (h:zap w t g cap n L)(k:Nat):w.frozen? ⟨g,k,none⟩=false:=by
 obtain⟨cur,hb,_⟩:=h
 exact hb.frozen k
theorem zap.set_ (h:zap w t g cap n L)(k d:Nat)(hk:k<n):zap (w.setCell ⟨g,k,none⟩ (.int .u64 (d:Int))) t g cap n (L.set k d):=by
 obtain⟨cur,hb,h1,h2,h3,h4,h5⟩:=h
 refine⟨_,hb.set_ k _,h1,h2,by simpa using h3,by simpa using h4,?_⟩
 rw [Array.toList_setIfInBounds,List.take_set,h5]
 unfold zax
 rw [List.map_set]
theorem zap.below {B:Nat}(h:zap w t g cap n L)(hb:Below B w w')(hg:g<B):zap w' t g cap n L:=by
 obtain⟨cur,h0,h1⟩:=h
 exact⟨cur,h0.below hb hg,h1⟩
theorem zap.keep (h:zap w t g cap n L)(hb:Below w.heap.size w w'):zap w' t g cap n L:=h.below hb h.lt
theorem zap.drew (h:zap w t g cap n L):zap w.drew t g cap n L:=h
theorem zap.alloc (h:zap w t g cap n L)(o:Obj):zap (w.alloc o) t g cap n L:=by
 obtain⟨cur,h0,h1⟩:=h
 exact⟨cur,h0.alloc o,h1⟩
theorem zap.far (h:zap w t g cap n L){p:Addr}(hp:g≠p.block)(u:Value):zap (w.setCell p u) t g cap n L:=by
 obtain⟨cur,h0,h1⟩:=h
 exact⟨cur,h0.far hp u,h1⟩
theorem zap.reads (h:zap w t g cap n L):zas w w.heap.size 1 (some ⟨g,0,none⟩) n (zax .u64 L):=by
 have hl:=h.lt
 have hc:=h.cell
 have hn:=h.len
 refine⟨by rw [zay];omega,λ_=>⟨_,rfl,hl,λj u hu=>?_⟩⟩
 have hj:j<L.length:=by
  rcases Nat.lt_or_ge j L.length with hj|hj
  ·exact hj
  ·rw [List.getElem?_eq_none (by rw [zay];exact hj)] at hu;cases hu
 have e:(⟨g,0,none⟩:Addr).add j=⟨g,j,none⟩:=by unfold Addr.add;split<;>simp_all
 rw [e,hc j (by omega),<-zcQ .u64 L j hj,hu]
theorem zap.own (h:zap w t g cap n L){base:Nat}(hb:base<=g):w.ownsRow base t 1 (.slice (some ⟨g,0,none⟩) n cap) n (zax .u64 L):=by
 obtain⟨cur,h0,h1,h2,h3,h4,h5⟩:=h
 exact⟨by rw [zay];omega,.inr ⟨g,cap,cur,rfl,hb,h0,h1,h2,by omega,by rw [Nat.mul_one];exact h5⟩⟩
theorem zap.made (w:World)(t:TypeId)(N:Nat)(hN:N<=maxLen):zap (w.alloc (.cells (madeCells (Value.cells (.int .u64 0)) N) t)) t w.heap.size N N (List.replicate N 0):=by
 refine⟨_,Blk.new w t _,Nat.le_refl _,hN,size_madeCells _ _,by simp,?_⟩
 show(madeCells #[Value.int .u64 0] N).toList.take N=_
 rw [toList_madeCells_one,List.take_of_length_le (by simp)]
 simp [zax]
theorem zap.of_own {base:Nat}{v:Value}{l:List Nat}(h:w.ownsRow base t 1 v n (zax .u64 l))(hn:0<n):∃g cap,v=.slice (some ⟨g,0,none⟩) n cap/\base<=g/\zap w t g cap n l:=by
 obtain⟨h1,h2⟩:=h
 rcases h2 with⟨_,h⟩|⟨g,cap,cur,e,hb,hk,a,b,c,d⟩
 ·omega
 ·refine⟨g,cap,e,hb,cur,hk,a,b,by omega,by rw [zay] at h1;omega,?_⟩
  rw [Nat.mul_one] at d
  exact d
end
theorem zas.of_grown_own {w:World}{base n:Nat}{t:TypeId}{v:Value}{xs:List Value}(h:w.ownsRow base t 1 v n xs):∃A c,v=.slice A n c/\n<=c/\c<=maxLen/\zas w w.heap.size 1 A n xs:=by
 have h0:=h
 obtain⟨h1,h2⟩:=h
 rcases h2 with⟨e,hn⟩|⟨g,cap,cur,e,hb,hk,a,b,c,d⟩
 ·subst hn
  exact⟨none,0,e,Nat.le_refl _,by unfold maxLen;omega,by subst e;exact zas.of_own h0⟩
 ·exact⟨_,_,e,a,b,by subst e;exact zas.of_own h0⟩
structure zkq (w:World)(A:oA9)(n c:Nat)(xs:List Nat):Prop where
 len:xs.length=n
 fits:n<=c
 most:c<=9223372036854775807
 num:∀i,i<n->∃(ad:Addr) (B:oA9) (m d:Nat),A=some ad/\ad.block<w.heap.size/\w.cell? (ad.add i)=some (.slice B m d)/\zad w (xs.getD i 0) B m d
theorem zkq.below {w w':World}{A:oA9}{n c:Nat}{xs:List Nat}(h:zkq w A n c xs)(hb:Below w.heap.size w w'):zkq w' A n c xs:=
 ⟨h.len,h.fits,h.most,λi hi=>by
  obtain⟨ad,B,m,d,e,h1,h2,h3⟩:=h.num i hi
  exact⟨ad,B,m,d,e,Nat.lt_of_lt_of_le h1 hb.size,zac hb h2,h3.below hb⟩⟩
theorem zeS {w:World}{A:oA9}{n c x:Nat}(h:zad w x A n c){p:Addr}(hp:0<n->∀ad,A=some ad->ad.block≠p.block)(u:Value):zad (w.setCell p u) x A n c:=by
 by_cases hn:0<n
 ·exact zcR h (hp hn) u
 ·exact⟨⟨h.1.1,λh0=>absurd h0 hn⟩,h.2⟩
theorem zhI {w w':World}{x:Nat}{B:oA9}{m d:Nat}(h:zad w x B m d){row:Option Nat}(hg:w.grownBy w' row)(hr:0<m->∀ad,B=some ad->some ad.block≠row):zad w' x B m d:=by
 obtain⟨hr0,h1,h2⟩:=h
 refine⟨⟨hr0.1,λhn=>?_⟩,h1,h2⟩
 obtain⟨ad,e,hb,hc⟩:=hr0.2 hn
 refine⟨ad,e,Nat.lt_of_lt_of_le hb hg.size,λj u hu=>?_⟩
 exact(World.cell?_of_block (hg.block _ (by rw [zao];exact hb) (by rw [zao];exact hr hn ad e))).trans (hc j u hu)
theorem zlk {w:World}{A:oA9}{n c x g:Nat}{t:TypeId}{a:oA9}{b d:Nat}(h:zad w x A n c)(hk:Blk w g t #[.slice a b d]):0<n->∀ad,A=some ad->ad.block≠g:=λhn ad e hg=>by
 obtain⟨ad',e',_,hc⟩:=h.1.2 hn
 rw [e] at e'
 injection e' with e'
 subst e'
 have hl:=h.len
 have h0:=hc 0 (.int .u64 ((dg 18446744073709551616 x).getD 0 0:Nat)) (zcQ .u64 _ 0 (by omega))
 have e0:ad.add 0=ad:=by unfold Addr.add;rw [if_pos rfl]
 rw [e0] at h0
 obtain⟨bk,off,pr⟩:=ad
 simp only at hg
 subst hg
 unfold Blk at hk
 cases pr with
 |none=>
   rw [show w.cell? ⟨bk,off,none⟩=#[Value.slice a b d][off]? from cell_of_row w bk off _ t (0,0) hk] at h0
   match off,h0 with
   |0,h0=>simp at h0
   |o+1,h0=>simp at h0
 |some q=>simp [World.cell?,hk] at h0
theorem zek {w:World}{A:oA9}{n c x g:Nat}{t:TypeId}{a:oA9}{b d:Nat}(h:zad w x A n c)(hk:Blk w g t #[.slice a b d])(u:Value):zad (w.setCell ⟨g,0,none⟩ u) x A n c:=
 zeS h (zlk h hk) u
theorem zan {w:World}{A:oA9}{n c x g:Nat}{a:oA9}{b d:Nat}(h:zad w x A n c)(hk:zbQ w g (.slice a b d))(u:Value):zad (w.setCell ⟨g,0,none⟩ u) x A n c:=by
 obtain⟨t,hk⟩:=hk
 exact zek h hk u
def zlm (base:Nat)(v:Value)(B:oA9)(m:Nat):Prop:=0<m->∀ad,B=some ad->base<=ad.block/\v.ownBlock≠some ad.block
theorem zlm.grow {w w':World}{base x m d:Nat}{v v':Value}{B:oA9}(h:zlm base v B m)(hx:zad w x B m d)(hg:w.grownBy w' v.ownBlock)(ha:v'.ownBlock=v.ownBlock\/v'.ownBlock=some w.heap.size):zad w' x B m d/\zlm base v' B m:=by
 refine⟨zhI hx hg (λhm ad e=>(h hm ad e).2.symm),λhm ad e=>⟨(h hm ad e).1,?_⟩⟩
 rcases ha with ha|ha
 ·rw [ha];exact(h hm ad e).2
 ·rw [ha]
  obtain⟨ad',e',hlt,_⟩:=hx.1.2 hm
  rw [e] at e'
  injection e' with e'
  subst e'
  intro hh
  injection hh with hh
  omega
structure zbU (w:World)(base:Nat)(v:Value)(xs:List Nat)(vs:List Value):Prop where
 own:w.ownsRow base 49 1 v xs.length vs
 num:∀i,i<xs.length->∃(B:oA9) (m d:Nat),vs[i]?=some (.slice B m d)/\zad w (xs.getD i 0) B m d/\zlm base v B m
theorem zbU.nil (w:World)(base:Nat):zbU w base (.slice none 0 0) [] []:=⟨World.ownsRow_nil _ _ _ _,λi hi=>by simp at hi⟩
theorem zbU.len {w:World}{base:Nat}{v:Value}{xs:List Nat}{vs:List Value}(h:zbU w base v xs vs):vs.length=xs.length:=by have:=h.own.1;omega
theorem zbU.shape {w:World}{base:Nat}{v:Value}{xs:List Nat}{vs:List Value}(h:zbU w base v xs vs):∃A c,v=.slice A xs.length c/\zkq w A xs.length c xs:=by
 obtain⟨A,c,e,h1,h2,h3⟩:=zas.of_grown_own h.own
 refine⟨A,c,e,rfl,h1,by unfold maxLen at h2;omega,λi hi=>?_⟩
 obtain⟨B,m,d,hv,hw,_⟩:=h.num i hi
 obtain⟨ad,ea,hb,hc⟩:=h3.2 (by omega)
 exact⟨ad,B,m,d,ea,hb,hc i _ hv,hw⟩
theorem zbU.below {w w':World}{base:Nat}{v:Value}{xs:List Nat}{vs:List Value}(h:zbU w base v xs vs)(hb:Below w.heap.size w w'):zbU w' base v xs vs:=by
 refine⟨⟨h.own.1,?_⟩,λi hi=>?_⟩
 ·rcases h.own.2 with h1|⟨g,cap,cur,e1,e2,e3,e4⟩
  ·exact .inl h1
  ·exact .inr ⟨g,cap,cur,e1,e2,(hb.block g (Blk.lt (t:=49) (cs:=cur) e3)).trans e3,e4⟩
 ·obtain⟨B,m,d,hv,hw,hf⟩:=h.num i hi
  exact⟨B,m,d,hv,hw.below hb,hf⟩
theorem zbU.set_ {w:World}{base:Nat}{v:Value}{xs:List Nat}{vs:List Value}(h:zbU w base v xs vs){p:Addr}(hp:p.block<base)(u:Value):zbU (w.setCell p u) base v xs vs:=by
 refine⟨⟨h.own.1,?_⟩,λi hi=>?_⟩
 ·rcases h.own.2 with h1|⟨g,cap,cur,e1,e2,e3,e4⟩
  ·exact .inl h1
  ·exact .inr ⟨g,cap,cur,e1,e2,Blk.far (t:=49) (cs:=cur) e3 (by omega) u,e4⟩
 ·obtain⟨B,m,d,hv,hw,hf⟩:=h.num i hi
  exact⟨B,m,d,hv,zeS hw (λhm ad e=>by have:=(hf hm ad e).1;omega) u,hf⟩
theorem zbU.grow {w w':World}{base n:Nat}{v v':Value}{xs:List Nat}{vs:List Value}{x:Nat}{B:oA9}{m d:Nat}(h:zbU w base v xs vs)(hx:zad w x B m d)(hB:zlm base v B m)
  (ho:w'.ownsRow base 49 1 v' n (vs++[.slice B m d])) (hn:n=xs.length+1) (hg:w.grownBy w' v.ownBlock) (ha:v'.ownBlock=v.ownBlock\/v'.ownBlock=some w.heap.size):zbU w' base v' (xs++[x]) (vs++[.slice B m d]):=by
 have hl:=h.len
 refine⟨by rw [List.length_append,List.length_singleton,<-hn];exact ho,λi hi=>?_⟩
 rw [List.length_append,List.length_singleton] at hi
 by_cases hlt:i<xs.length
 ·obtain⟨C,k,e,hv,hw,hf⟩:=h.num i hlt
  obtain⟨h1,h2⟩:=hf.grow hw hg ha
  refine⟨C,k,e,by rw [List.getElem?_append_left (by omega)];exact hv,?_,h2⟩
  rw [List.getD_eq_getElem?_getD,List.getElem?_append_left hlt,<-List.getD_eq_getElem?_getD]
  exact h1
 ·have hi2:i=xs.length:=by omega
  subst hi2
  obtain⟨h1,h2⟩:=hB.grow hx hg ha
  refine⟨B,m,d,by rw [List.getElem?_append_right (by omega),hl];simp,?_,h2⟩
  rw [List.getD_eq_getElem?_getD,List.getElem?_append_right (Nat.le_refl _)]
  simpa using h1
theorem ziJ (p q r s:Nat)(hp:p<18446744073709551616)(hq:q<18446744073709551616)(hr:r<18446744073709551616)(hs:s<18446744073709551616)(w:World):
  Calls Tryz.prog 173 #[.int .u64 p,.int .u64 q,.int .u64 r,.int .u64 s] w λe w'=>e=.returned (.tuple #[.int .u64 (((p*q+r+s) / 18446744073709551616:Nat):Int),.int .u64 (((p*q+r+s)%18446744073709551616:Nat):Int)])/\w=w':=by
 have h:=zmx p q r s ⟨by omega,by omega⟩ ⟨by omega,by omega⟩ ⟨by omega,by omega⟩ ⟨by omega,by omega⟩ w
 rw [(ma_nat p q r s).1,(ma_nat p q r s).2] at h
 exact h
theorem zgI (x y:Nat)(A D:oA9)(n m c d:Nat)(w:World)(hA:zad w x A n c)(hD:zad w y D m d)(hn:n<=274877906944)(hm:m<=274877906944):
  Calls Tryz.prog 124 #[.agg #[.slice A n c],.agg #[.slice D m d]] w (zaF w (x*y)):=by
 obtain⟨i0,hi0,hz0,hz1,hz2⟩:=info_parts zfV
 have hln:=lh9 hA.len
 have hlm:=lh9 hD.len
 have HA:=lh9 (λw' (hb:Below w.heap.size w w')=>hA.below hb)
 have HW:=(λw' (hb:Below w.heap.size w w')=>zdf y D m d w' (hD.below hb) (by omega))
 unfold zmC at HW
 rw [hlm.out] at HW
 have HWS:=lh9 HW
 obtain⟨N,hN⟩:∃N,n+m=N:=⟨_,rfl⟩
 have HN:=lh9 hN
 have hN1:N<=549755813888:=by omega
 obtain⟨Z,hZ⟩:∃Z,madeCells (Value.cells (.int .u64 0)) N=Z:=⟨_,rfl⟩
 have hmk:∀W:World,(Instr.makeSlice 47 (.int .i64 ((n:Int)+(m:Int))) (.int .i64 ((n:Int)+(m:Int)))).run Tryz.prog W=.ok (.slice (some ⟨W.heap.size,0,none⟩) N N) (W.alloc (.cells Z 161)):=λW=>by
  have h:=zaY _ _ i0 _ Tryz.underlying47 hi0 hz0 .i64 .i64 N N (Nat.le_refl _) (by rw [hz2];omega) (by omega) W
  rw [hz1,Nat.mul_one,hZ] at h
  rw [show(n:Int)+(m:Int)=(N:Int) from by omega]
  exact h
 have HZ:=lh9 hZ
 clear hZ hA hD hN HW
 go_enter Tryz.func124,Tryz.ntmps124
 go_wp2_with fail
 generalize hW:((w.alloc (.cells #[.slice A n c] 49)).alloc (.cells #[.slice D m d] 49)).alloc (.cells #[.slice none 0 0] 49)=W0
 obtain⟨b1,b2,b3,b4,b5⟩:=zbA w 49 49 49 #[.slice A n c] #[.slice D m d] #[.slice none 0 0]
 rw [hW] at b1 b2 b3 b4 b5
 have g1:W0.cell? ⟨w.heap.size,0,none⟩=some (.slice A n c):=b2.cell 0
 clear hW b2 b3
 refine(HWS.out _ b1).mono ?_
 rintro e w1 ⟨A1,c1,rfl,hr1,_,⟨_,hfr⟩,hb⟩
 have hB:=zaa b1 hb
 have g1:=zac hb g1
 have hk:=zab hb b4
 have hs3:w.heap.size+3<=w1.heap.size:=Nat.le_trans b5 hb.size
 clear hb b1 b4 b5 hfr
 go_wp2_with fail
 refine(zbz x _ _ _ _).mono ?_
 rintro e w2 ⟨rfl,hb⟩
 have hB:=zaa hB hb
 have g1:=zac hb g1
 have hk:=zab hb hk
 have hr1:=(hr1.below hb).more hb.size
 have hs3:w.heap.size+3<=w2.heap.size:=Nat.le_trans hs3 hb.size
 have g1a:=λo=>zak o g1
 clear hb
 go_wp2_with fail
 have hR:zap (w2.alloc (.cells Z 161)) 161 w2.heap.size N N (List.replicate N 0):=by
  have h:=zap.made w2 161 N (by unfold maxLen;omega)
  rw [HZ.out] at h
  exact h
 obtain⟨gs,hgs⟩:∃g,w2.heap.size=g:=⟨_,rfl⟩
 have hB:=zai (.cells Z 161) hB
 have g1:=zak (.cells Z 161) g1
 have hk:=hk.alloc (.cells Z 161)
 have hr1:=(hr1.alloc (Nat.le_refl _) (.cells Z 161)).more (B':=gs) (by omega)
 rw [hgs] at hR hs3
 generalize w2.alloc (.cells Z 161)=W3 at*
 rw [hgs]
 clear hgs hmk g1a
 refine(zbz x _ _ _ _).mono ?_
 rintro e w4 ⟨rfl,hb⟩
 have hB:=zaa hB hb
 have g1:=zac hb g1
 have hk:=zab hb hk
 have hr1:=hr1.below (hb.mono (Nat.le_of_lt hR.lt))
 have hR:=hR.keep hb
 have hI:=lh9 (zif.start x y m N)
 clear hb
 go_wp2_with fail
 go_loopg [22] (n+1) (λg ix wr=>∃(k:Nat) (L:List Nat),k<=n/\n<g+k/\ix=.int .i64 k/\zif x y k m N L/\zap wr 161 gs N N L/\Below w.heap.size w wr/\wr.cell? ⟨w.heap.size,0,none⟩=some (.slice A n c)/\Blk wr (w.heap.size+1+1) 49 #[.slice none 0 0]/\zas wr gs 1 A1 m (zax .u64 (dg 18446744073709551616 y)))
 case atStart=>exact⟨0,_,Nat.zero_le _,by omega,rfl,hI.out,hR,hB,g1,hk,hr1⟩
 case round=>
  clear hB g1 hk hr1 hR hI
  obtain⟨k,L0,hkn,hg,rfl,hM,hR,hB,g1,hk,hr1⟩:=hrel
  obtain⟨wo,hwo⟩:∃wo,wo=wr:=⟨_,rfl⟩
  subst hwo
  by_cases hlt:k<n
  ·have WX:=lh9 (λw' (h:Below w.heap.size w w')=>zds x A n c k w' (HA.out w' h))
   have ha:=zcb x k
   have hRB:=lh9 (RowB.start y (wd x k) k hM.len hM.dgs)
   have hMS:=lh9 (λL c (h:RowB L0 y (wd x k) k m N L c)=>zif.step hM h (by have:=hlm.out;omega) (by have:=HN.out;omega))
   obtain⟨a,haa⟩:∃a,wd x k=a:=⟨_,rfl⟩
   rw [haa] at WX ha hRB hMS
   clear haa hM
   go_wp2_with fail
   refine(WX.out _ hB).mono ?_
   rintro e w5 ⟨rfl,hb⟩
   have hB:=zaa hB hb
   have g1:=zac hb g1
   have hk:=zab hb hk
   have hr1:=hr1.below (hb.mono (Nat.le_of_lt hR.lt))
   have hR:=hR.keep hb
   clear hb
   go_wp2_with fail
   go_loopg [9,30] (m+1) (λg cy jx wr=>∃(j cc:Nat) (L:List Nat),j<=m/\m<g+j/\jx=.int .i64 j/\cy=.int .u64 cc/\RowB L0 y a k j N L cc/\zap wr 161 gs N N L/\Below w.heap.size w wr/\wr.cell? ⟨w.heap.size,0,none⟩=some (.slice A n c)/\Blk wr (w.heap.size+1+1) 49 #[.slice none 0 0]/\zas wr gs 1 A1 m (zax .u64 (dg 18446744073709551616 y)))
   case atStart=>exact⟨0,0,L0,Nat.zero_le _,by omega,rfl,rfl,hRB.out,hR,hB,g1,hk,hr1⟩
   case round=>
    clear hB g1 hk hr1 hR hRB
    obtain⟨j,cc,L,hjm,hg2,rfl,rfl,hI,hR,hB,g1,hk,hr1⟩:=hrel
    by_cases hjl:j<m
    ·have hNN:=HN.out
     obtain⟨ad,rfl,hadb,h1⟩:=zdi hr1 (k:=j) hjl
     rw [zej] at h1
     have hp:=hI.dgs.getD (by decide) (k+j)
     have h2:=hR.cell (k+j) (by omega)
     have h3:=hR.frozen (k+j)
     have hb2:=zcb y j
     have hc2:=hI.carry
     have hST:=hI.step (s:=wd y j*a+L.getD (k+j) 0+cc) ha (by omega) rfl
     obtain⟨b,hbb⟩:∃b,wd y j=b:=⟨_,rfl⟩
     obtain⟨p,hpp⟩:∃b,L.getD (k+j) 0=b:=⟨_,rfl⟩
     rw [hbb] at h1 hb2 hST
     rw [hpp] at h2 hp hST
     have HMA:=lh9 (λw'=>ziJ b a p cc hb2 ha hp hc2 w')
     obtain⟨s1,e1⟩:∃s1,(b*a+p+cc)%18446744073709551616=s1:=⟨_,rfl⟩
     obtain⟨s2,e2⟩:∃s2,(b*a+p+cc) / 18446744073709551616=s2:=⟨_,rfl⟩
     rw [e1,e2] at HMA hST
     have HST:=lh9 hST
     have HRS:=lh9 (hR.set_ (k+j) s1 (by omega))
     obtain⟨q,hq⟩:∃q,k+j=q:=⟨_,rfl⟩
     rw [hq] at h2 h3 HST HRS
     have i1:(0:Int)<=(k:Int)+(j:Int):=by omega
     have i2:(k:Int)+(j:Int)<(N:Int):=by omega
     have i3:((k:Int)+(j:Int)).toNat=q:=by omega
     have hBS:=λu=>zae (p:=⟨gs,q,none⟩) u (by show w.heap.size<=gs;omega) hB
     have gS:=λu=>zag (p:=⟨w.heap.size,0,none⟩) (q:=⟨gs,q,none⟩) u (by show w.heap.size≠gs;omega) g1
     have kS:=λu=>hk.far (p:=⟨gs,q,none⟩) (by show w.heap.size+1+1≠gs;omega) u
     clear hST hbb hpp e1 e2 hI hq hNN
     go_wp2_with fail
     refine(HMA.out _).mono ?_
     rintro e w' ⟨rfl,rfl⟩
     go_wp2
     go_roundg (m - j)
     case measure=>omega
     case rel=>exact⟨j+1,s2,_,by omega,by omega,by go_num,rfl,HST.out,HRS.out,hBS _,gS _,kS _,hr1.setCell (Nat.le_refl _) _⟩
    ·have hjm2:j=m:=by omega
     subst hjm2
     have hNN:=HN.out
     have h3:=hR.frozen (k+j)
     have HMN:=lh9 (hMS.out L cc hI)
     have HRS:=lh9 (hR.set_ (k+j) cc (by omega))
     obtain⟨u,hu⟩:∃u,wr.cell? ⟨gs,k+j,none⟩=some u:=⟨_,hR.cell (k+j) (by omega)⟩
     obtain⟨q,hq⟩:∃q,k+j=q:=⟨_,rfl⟩
     rw [hq] at h3 HMN HRS hu
     have i1:(0:Int)<=(k:Int)+(j:Int):=by omega
     have i2:(k:Int)+(j:Int)<(N:Int):=by omega
     have i3:((k:Int)+(j:Int)).toNat=q:=by omega
     have hBS:=λu=>zae (p:=⟨gs,q,none⟩) u (by show w.heap.size<=gs;omega) hB
     have gS:=λu=>zag (p:=⟨w.heap.size,0,none⟩) (q:=⟨gs,q,none⟩) u (by show w.heap.size≠gs;omega) g1
     have kS:=λu=>hk.far (p:=⟨gs,q,none⟩) (by show w.heap.size+1+1≠gs;omega) u
     clear hI hq hNN hMS
     go_wp2
     go_roundg (n - k)
     case measure=>omega
     case rel=>exact⟨k+1,_,by omega,by omega,by go_num,HMN.out,HRS.out,hBS _,gS _,kS _,hr1.setCell (Nat.le_refl _) _⟩
  ·have hkn2:k=n:=by omega
   subst hkn2
   have hNN:=HN.out
   have e:=zif.done (L:=L0) (by rw [hNN];exact hM) (by have:=hln.out;omega)
   have O:=zcN (some ⟨gs,0,none⟩) N N L0 wo hR.reads hM.dgs (Nat.le_refl _) (by omega) (by omega)
   rw [e] at O
   have HO:=lh9 O
   clear O e hNN hM
   go_wp2_with fail
   refine HO.out.mono ?_
   rintro e w' ⟨A2,n2,c2,rfl,hw,hb,hf⟩
   have hk2:=zab hb hk
   have hc1:w'.cell? ⟨w.heap.size+1+1,0,none⟩=some (.slice none 0 0):=hk2.cell 0
   have hf1:=hk2.frozen 0
   have hsz:=hR.lt
   have HG : Hid (zaF w (x * y) (.returned (.agg #[.slice A2 n2 c2])) (w'.setCell ⟨w.heap.size + 1 + 1,0,none⟩ (.slice A2 n2 c2))) :=
    zgC hw (zaa hB hb) (by show _<=_;simp;omega) (λad e=>by have:=hf ad e;show ad.block≠_;simp;omega) (λad e=>by have:=hf ad e;omega) _
   clear hb hw hf hk2 hsz hk hB g1 hr1 hR
   go_wp2
   refine bodyPost_ret (v:=.agg #[.slice A2 n2 c2]) (by simp [results,Tryz.results124,go_sem,hc1]) rfl ?_
   exact HG.out
