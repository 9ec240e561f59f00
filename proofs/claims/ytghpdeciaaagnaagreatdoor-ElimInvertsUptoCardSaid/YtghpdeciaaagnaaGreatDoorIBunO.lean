/- What this claim leans on. -/
import Derived.Test.YtghpdeciaaagnaaGreatDoorIBunN
namespace Go.Proofs.YtghpdeciaaagnaaGreatDoor
open Go Go.RowKit
set_option maxHeartbeats 16000000
set_option maxRecDepth 100000
set_option linter.unusedVariables false
theorem zdy (x:Nat)(A:oA9)(n c:Nat)(w:World)(h:zad w x A n c)(hn:n<=1099511627776):
  Calls Tryz.prog 146 #[.agg #[.slice A n c]] w (zft w n (zaA .u64 (dg 18446744073709551616 x))):=by
 obtain⟨hr,h1,h2⟩:=h
 have hlen:=hr.len_
 have C:∀o,Calls Tryz.prog 189 #[.slice A n c] (w.alloc o) (zft w n (zaA .u64 (dg 18446744073709551616 x))):=λo=>by
  have hro:=((hr.alloc (Nat.le_refl _) o).more (B':=(w.alloc o).heap.size) (by simp))
  rcases A with _|ad
  ·have hn0:n=0:=by
    rcases Nat.eq_zero_or_pos n with h|h
    ·exact h
    ·obtain⟨ad,e,_⟩:=hr.2 h
     cases e
   subst hn0
   have hl:zaA .u64 (dg 18446744073709551616 x)=[]:=by rw [List.eq_nil_of_length_eq_zero hlen];rfl
   rw [hl]
   exact(zku c _).mono λe w' ⟨he,hw⟩=>⟨_,he,World.ownsRow_nil _ _ _ _,by rw [<-hw];exact(Below.refl _ w).alloc (Nat.le_refl _) o⟩
  ·refine(zgy ad n c _ (w.alloc o) hro hn).mono λe w' ⟨v,he,ho,hb⟩=>?_
   refine⟨v,he,⟨ho.1,?_⟩,((Below.refl _ w).alloc (Nat.le_refl _) o).trans (hb.mono (by simp))⟩
   rcases ho.2 with h|⟨g,cap,cur,e1,e2,e3⟩
   ·exact .inl h
   ·exact .inr ⟨g,cap,cur,e1,Nat.le_trans (by simp) e2,e3⟩
 obtain⟨L,hL⟩:∃L,zaA .u64 (dg 18446744073709551616 x)=L:=⟨_,rfl⟩
 rw [hL] at C⊢
 have HC:=lh9 C
 clear C hr hlen hL
 go_enter Tryz.func146,Tryz.ntmps146
 go_wp2_with fail
 refine(HC.out _).mono ?_
 intro e w1 hg
 have G:=lh9 hg
 obtain⟨v,rfl,_,_⟩:=hg
 go_wp2
 go_ret
 exact G.out
def zaq (w:World)(t:TypeId)(g cap n:Nat)(L:List Nat):Prop:=
 ∃cur,Blk w g t cur/\n<=cap/\cap<=maxLen/\cur.size=cap/\L.length=n/\cur.toList.take n=zaA .u64 L
section
variable {w w':World}{t:TypeId}{g cap n:Nat}{L:List Nat}
theorem zaq.len (h:zaq w t g cap n L):L.length=n:=by obtain⟨_,_,_,_,_,h,_⟩:=h;exact h
theorem zaq.room (h:zaq w t g cap n L):n<=cap/\cap<=maxLen:=by obtain⟨_,_,h,h2,_⟩:=h;exact⟨h,h2⟩
theorem zaq.lt (h:zaq w t g cap n L):g<w.heap.size:=by obtain⟨_,h,_⟩:=h;exact h.lt
theorem zcX (k:IntKind)(l:List Nat)(i:Nat)(h:i<l.length):(zaA k l)[i]?=some (.int k (l.getD i 0:Nat)):=by
 simp [zaA,List.getD,List.getElem?_eq_getElem h]
theorem zaq.cell (h:zaq w t g cap n L)(k:Nat)(hk:k<n):w.cell? ⟨g,k,none⟩=some (.int .u64 (L.getD k 0:Nat)):=by
 obtain⟨cur,hb,h1,h2,h3,h4,h5⟩:=h
 rw [hb.cell k,<-Array.getElem?_toList,<-zcX .u64 L k (by omega),<-h5,List.getElem?_take,if_pos hk]
theorem zaq.frozen (h:zaq w t g cap n L)(k:Nat):w.frozen? ⟨g,k,none⟩=false:=by
 obtain⟨cur,hb,_⟩:=h
 exact hb.frozen k
theorem zaq.set_ (h:zaq w t g cap n L)(k d:Nat)(hk:k<n):zaq (w.setCell ⟨g,k,none⟩ (.int .u64 (d:Int))) t g cap n (L.set k d):=by
 obtain⟨cur,hb,h1,h2,h3,h4,h5⟩:=h
 refine⟨_,hb.set_ k _,h1,h2,by simpa using h3,by simpa using h4,?_⟩
 rw [Array.toList_setIfInBounds,List.take_set,h5]
 unfold zaA
 rw [List.map_set]
theorem zaq.below {B:Nat}(h:zaq w t g cap n L)(hb:Below B w w')(hg:g<B):zaq w' t g cap n L:=by
 obtain⟨cur,h0,h1⟩:=h
 exact⟨cur,h0.below hb hg,h1⟩
theorem zaq.keep (h:zaq w t g cap n L)(hb:Below w.heap.size w w'):zaq w' t g cap n L:=h.below hb h.lt
theorem zaq.drew (h:zaq w t g cap n L):zaq w.drew t g cap n L:=h
theorem zaq.alloc (h:zaq w t g cap n L)(o:Obj):zaq (w.alloc o) t g cap n L:=by
 obtain⟨cur,h0,h1⟩:=h
 exact⟨cur,h0.alloc o,h1⟩
theorem zaq.far (h:zaq w t g cap n L){p:Addr}(hp:g≠p.block)(u:Value):zaq (w.setCell p u) t g cap n L:=by
 obtain⟨cur,h0,h1⟩:=h
 exact⟨cur,h0.far hp u,h1⟩
theorem zaq.reads (h:zaq w t g cap n L):zas w w.heap.size 1 (some ⟨g,0,none⟩) n (zaA .u64 L):=by
 have hl:=h.lt
 have hc:=h.cell
 have hn:=h.len
 refine⟨by rw [zaE];omega,λ_=>⟨_,rfl,hl,λj u hu=>?_⟩⟩
 have hj:j<L.length:=by
  rcases Nat.lt_or_ge j L.length with hj|hj
  ·exact hj
  ·rw [List.getElem?_eq_none (by rw [zaE];exact hj)] at hu;cases hu
 have e:(⟨g,0,none⟩:Addr).add j=⟨g,j,none⟩:=by unfold Addr.add;split<;>simp_all
 rw [e,hc j (by omega),<-zcX .u64 L j hj,hu]
theorem zaq.own (h:zaq w t g cap n L){base:Nat}(hb:base<=g):w.ownsRow base t 1 (.slice (some ⟨g,0,none⟩) n cap) n (zaA .u64 L):=by
 obtain⟨cur,h0,h1,h2,h3,h4,h5⟩:=h
 exact⟨by rw [zaE];omega,.inr ⟨g,cap,cur,rfl,hb,h0,h1,h2,by omega,by rw [Nat.mul_one];exact h5⟩⟩
theorem zaq.made (w:World)(t:TypeId)(N:Nat)(hN:N<=maxLen):zaq (w.alloc (.cells (madeCells (Value.cells (.int .u64 0)) N) t)) t w.heap.size N N (List.replicate N 0):=by
 refine⟨_,Blk.new w t _,Nat.le_refl _,hN,size_madeCells _ _,by simp,?_⟩
 show(madeCells #[Value.int .u64 0] N).toList.take N=_
 rw [toList_madeCells_one,List.take_of_length_le (by simp)]
 simp [zaA]
theorem zaq.of_own {base:Nat}{v:Value}{l:List Nat}(h:w.ownsRow base t 1 v n (zaA .u64 l))(hn:0<n):∃g cap,v=.slice (some ⟨g,0,none⟩) n cap/\base<=g/\zaq w t g cap n l:=by
 obtain⟨h1,h2⟩:=h
 rcases h2 with⟨_,h⟩|⟨g,cap,cur,e,hb,hk,a,b,c,d⟩
 ·omega
 ·refine⟨g,cap,e,hb,cur,hk,a,b,by omega,by rw [zaE] at h1;omega,?_⟩
  rw [Nat.mul_one] at d
  exact d
end
theorem zas.of_grown_own {w:World}{base n:Nat}{t:TypeId}{v:Value}{xs:List Value}(h:w.ownsRow base t 1 v n xs):∃A c,v=.slice A n c/\n<=c/\c<=maxLen/\zas w w.heap.size 1 A n xs:=by
 have h0:=h
 obtain⟨h1,h2⟩:=h
 rcases h2 with⟨e,hn⟩|⟨g,cap,cur,e,hb,hk,a,b,c,d⟩
 ·subst hn
  exact⟨none,0,e,Nat.le_refl _,by unfold maxLen;omega,by subst e;exact zas.of_own h0⟩
 ·exact⟨_,_,e,a,b,by subst e;exact zas.of_own h0⟩
structure zlx (w:World)(A:oA9)(n c:Nat)(xs:List Nat):Prop where
 len:xs.length=n
 fits:n<=c
 most:c<=9223372036854775807
 num:∀i,i<n->∃(ad:Addr) (B:oA9) (m d:Nat),A=some ad/\ad.block<w.heap.size/\w.cell? (ad.add i)=some (.slice B m d)/\zad w (xs.getD i 0) B m d
theorem zlx.below {w w':World}{A:oA9}{n c:Nat}{xs:List Nat}(h:zlx w A n c xs)(hb:Below w.heap.size w w'):zlx w' A n c xs:=
 ⟨h.len,h.fits,h.most,λi hi=>by
  obtain⟨ad,B,m,d,e,h1,h2,h3⟩:=h.num i hi
  exact⟨ad,B,m,d,e,Nat.lt_of_lt_of_le h1 hb.size,zac hb h2,h3.below hb⟩⟩
theorem zfl {w:World}{A:oA9}{n c x:Nat}(h:zad w x A n c){p:Addr}(hp:0<n->∀ad,A=some ad->ad.block≠p.block)(u:Value):zad (w.setCell p u) x A n c:=by
 by_cases hn:0<n
 ·exact zcY h (hp hn) u
 ·exact⟨⟨h.1.1,λh0=>absurd h0 hn⟩,h.2⟩
theorem zis {w w':World}{x:Nat}{B:oA9}{m d:Nat}(h:zad w x B m d){row:Option Nat}(hg:w.grownBy w' row)(hr:0<m->∀ad,B=some ad->some ad.block≠row):zad w' x B m d:=by
 obtain⟨hr0,h1,h2⟩:=h
 refine⟨⟨hr0.1,λhn=>?_⟩,h1,h2⟩
 obtain⟨ad,e,hb,hc⟩:=hr0.2 hn
 refine⟨ad,e,Nat.lt_of_lt_of_le hb hg.size,λj u hu=>?_⟩
 exact(World.cell?_of_block (hg.block _ (by rw [zap];exact hb) (by rw [zap];exact hr hn ad e))).trans (hc j u hu)
theorem zmp {w:World}{A:oA9}{n c x g:Nat}{t:TypeId}{a:oA9}{b d:Nat}(h:zad w x A n c)(hk:Blk w g t #[.slice a b d]):0<n->∀ad,A=some ad->ad.block≠g:=λhn ad e hg=>by
 obtain⟨ad',e',_,hc⟩:=h.1.2 hn
 rw [e] at e'
 injection e' with e'
 subst e'
 have hl:=h.len
 have h0:=hc 0 (.int .u64 ((dg 18446744073709551616 x).getD 0 0:Nat)) (zcX .u64 _ 0 (by omega))
 have e0:ad.add 0=ad:=by unfold Addr.add;rw [if_pos rfl]
 rw [e0] at h0
 obtain⟨bk,off,pr⟩:=ad
 simp only at hg
 subst hg
 unfold Blk at hk
 cases pr with
 |none=>
   rw [show w.cell? ⟨bk,off,none⟩=#[Value.slice a b d][off]? from cell_of_row w bk off _ t (0,0) hk] at h0
   match off,h0 with
   |0,h0=>simp at h0
   |o+1,h0=>simp at h0
 |some q=>simp [World.cell?,hk] at h0
theorem zev {w:World}{A:oA9}{n c x g:Nat}{t:TypeId}{a:oA9}{b d:Nat}(h:zad w x A n c)(hk:Blk w g t #[.slice a b d])(u:Value):zad (w.setCell ⟨g,0,none⟩ u) x A n c:=
 zfl h (zmp h hk) u
theorem zao {w:World}{A:oA9}{n c x g:Nat}{a:oA9}{b d:Nat}(h:zad w x A n c)(hk:zcf w g (.slice a b d))(u:Value):zad (w.setCell ⟨g,0,none⟩ u) x A n c:=by
 obtain⟨t,hk⟩:=hk
 exact zev h hk u
def zmr (base:Nat)(v:Value)(B:oA9)(m:Nat):Prop:=0<m->∀ad,B=some ad->base<=ad.block/\v.ownBlock≠some ad.block
theorem zmr.grow {w w':World}{base x m d:Nat}{v v':Value}{B:oA9}(h:zmr base v B m)(hx:zad w x B m d)(hg:w.grownBy w' v.ownBlock)(ha:v'.ownBlock=v.ownBlock\/v'.ownBlock=some w.heap.size):zad w' x B m d/\zmr base v' B m:=by
 refine⟨zis hx hg (λhm ad e=>(h hm ad e).2.symm),λhm ad e=>⟨(h hm ad e).1,?_⟩⟩
 rcases ha with ha|ha
 ·rw [ha];exact(h hm ad e).2
 ·rw [ha]
  obtain⟨ad',e',hlt,_⟩:=hx.1.2 hm
  rw [e] at e'
  injection e' with e'
  subst e'
  intro hh
  injection hh with hh
  omega
structure zch (w:World)(base:Nat)(v:Value)(xs:List Nat)(vs:List Value):Prop where
 own:w.ownsRow base 37 1 v xs.length vs
 num:∀i,i<xs.length->∃(B:oA9) (m d:Nat),vs[i]?=some (.slice B m d)/\zad w (xs.getD i 0) B m d/\zmr base v B m
theorem zch.nil (w:World)(base:Nat):zch w base (.slice none 0 0) [] []:=⟨World.ownsRow_nil _ _ _ _,λi hi=>by simp at hi⟩
theorem zch.len {w:World}{base:Nat}{v:Value}{xs:List Nat}{vs:List Value}(h:zch w base v xs vs):vs.length=xs.length:=by have:=h.own.1;omega
theorem zch.shape {w:World}{base:Nat}{v:Value}{xs:List Nat}{vs:List Value}(h:zch w base v xs vs):∃A c,v=.slice A xs.length c/\zlx w A xs.length c xs:=by
 obtain⟨A,c,e,h1,h2,h3⟩:=zas.of_grown_own h.own
 refine⟨A,c,e,rfl,h1,by unfold maxLen at h2;omega,λi hi=>?_⟩
 obtain⟨B,m,d,hv,hw,_⟩:=h.num i hi
 obtain⟨ad,ea,hb,hc⟩:=h3.2 (by omega)
 exact⟨ad,B,m,d,ea,hb,hc i _ hv,hw⟩
theorem zch.below {w w':World}{base:Nat}{v:Value}{xs:List Nat}{vs:List Value}(h:zch w base v xs vs)(hb:Below w.heap.size w w'):zch w' base v xs vs:=by
 refine⟨⟨h.own.1,?_⟩,λi hi=>?_⟩
 ·rcases h.own.2 with h1|⟨g,cap,cur,e1,e2,e3,e4⟩
  ·exact .inl h1
  ·exact .inr ⟨g,cap,cur,e1,e2,(hb.block g (Blk.lt (t:=37) (cs:=cur) e3)).trans e3,e4⟩
 ·obtain⟨B,m,d,hv,hw,hf⟩:=h.num i hi
  exact⟨B,m,d,hv,hw.below hb,hf⟩
theorem zch.set_ {w:World}{base:Nat}{v:Value}{xs:List Nat}{vs:List Value}(h:zch w base v xs vs){p:Addr}(hp:p.block<base)(u:Value):zch (w.setCell p u) base v xs vs:=by
 refine⟨⟨h.own.1,?_⟩,λi hi=>?_⟩
 ·rcases h.own.2 with h1|⟨g,cap,cur,e1,e2,e3,e4⟩
  ·exact .inl h1
  ·exact .inr ⟨g,cap,cur,e1,e2,Blk.far (t:=37) (cs:=cur) e3 (by omega) u,e4⟩
 ·obtain⟨B,m,d,hv,hw,hf⟩:=h.num i hi
  exact⟨B,m,d,hv,zfl hw (λhm ad e=>by have:=(hf hm ad e).1;omega) u,hf⟩
theorem zch.grow {w w':World}{base n:Nat}{v v':Value}{xs:List Nat}{vs:List Value}{x:Nat}{B:oA9}{m d:Nat}(h:zch w base v xs vs)(hx:zad w x B m d)(hB:zmr base v B m)
  (ho:w'.ownsRow base 37 1 v' n (vs++[.slice B m d])) (hn:n=xs.length+1) (hg:w.grownBy w' v.ownBlock) (ha:v'.ownBlock=v.ownBlock\/v'.ownBlock=some w.heap.size):zch w' base v' (xs++[x]) (vs++[.slice B m d]):=by
 have hl:=h.len
 refine⟨by rw [List.length_append,List.length_singleton,<-hn];exact ho,λi hi=>?_⟩
 rw [List.length_append,List.length_singleton] at hi
 by_cases hlt:i<xs.length
 ·obtain⟨C,k,e,hv,hw,hf⟩:=h.num i hlt
  obtain⟨h1,h2⟩:=hf.grow hw hg ha
  refine⟨C,k,e,by rw [List.getElem?_append_left (by omega)];exact hv,?_,h2⟩
  rw [List.getD_eq_getElem?_getD,List.getElem?_append_left hlt,<-List.getD_eq_getElem?_getD]
  exact h1
 ·have hi2:i=xs.length:=by omega
  subst hi2
  obtain⟨h1,h2⟩:=hB.grow hx hg ha
  refine⟨B,m,d,by rw [List.getElem?_append_right (by omega),hl];simp,?_,h2⟩
  rw [List.getD_eq_getElem?_getD,List.getElem?_append_right (Nat.le_refl _)]
  simpa using h1
theorem nat_add (x y:Nat)(A D:oA9)(n m c d:Nat)(w:World)(hA:zad w x A n c)(hD:zad w y D m d)(hn:n<=549755813888)(hm:m<=549755813888):
  Calls Tryz.prog 217 #[.agg #[.slice A n c],.agg #[.slice D m d]] w (zaO w (x+y)):=by
 obtain⟨i0,hi0,hz0,hz1,hz2⟩:=info_parts zgx
 have hln:=lh9 hA.len
 have hlm:=lh9 hD.len
 have HA:=lh9 (λw' (hb:Below w.heap.size w w')=>hA.below hb)
 have HD:=lh9 (λw' (hb:Below w.heap.size w w')=>hD.below hb)
 obtain⟨N,hN⟩:∃N,max n m=N:=⟨_,rfl⟩
 have hN1:n<=N:=by omega
 have hN2:m<=N:=by omega
 have hN3:N<=549755813888:=by omega
 obtain⟨Z,hZ⟩:∃Z,madeCells (Value.cells (.int .u64 0)) ((N+1)*i0.size)=Z:=⟨_,rfl⟩
 have HZ:Hid (Z.size=N+1):=by show _=_;rw [<-hZ,size_madeCells,hz1,Nat.mul_one]
 have hmk:∀W:World,(Instr.makeSlice 35 (.int .i64 ((N:Int)+1)) (.int .i64 ((N:Int)+1))).run Tryz.prog W=.ok (.slice (some ⟨W.heap.size,0,none⟩) (N+1) (N+1)) (W.alloc (.cells Z 160)):=λW=>by
  rw [<-hZ];exact zaW _ _ i0 _ Tryz.underlying35 hi0 hz0 _ _ (N+1) (N+1) (Nat.le_refl _) (by rw [hz2];omega) (by omega) W
 have hw1:IntKind.i64.wrap ((N:Int)+1)=(N:Int)+1:=IntWalk.i64_in _ (by omega)
 have hmx1:(if (n:Int)<(m:Int) then(m:Int) else(n:Int))=(N:Int):=by split<;>omega
 have hmx2:(if n<m then(m:Int) else(n:Int))=(N:Int):=by split<;>omega
 have hmx3:(if (m:Int)>(n:Int) then(m:Int) else(n:Int))=(N:Int):=by split<;>omega
 clear hZ hA hD hN
 go_enter Tryz.func217,Tryz.ntmps217
 go_wp2_with fail
 generalize hW:((w.alloc (.cells #[.slice A n c] 37)).alloc (.cells #[.slice D m d] 37)).alloc (.cells #[.slice none 0 0] 37)=W0
 obtain⟨b1,b2,b3,b4,b5⟩:=zbL w 37 37 37 #[.slice A n c] #[.slice D m d] #[.slice none 0 0]
 rw [hW] at b1 b2 b3 b4 b5
 have g1:W0.cell? ⟨w.heap.size,0,none⟩=some (.slice A n c):=b2.cell 0
 have g2:W0.cell? ⟨w.heap.size+1,0,none⟩=some (.slice D m d):=b3.cell 0
 clear hW b2 b3
 have hb0:=b1.drew
 have hk0:=b4.drew
 go_region_held3 (fun w' => Below w.heap.size w w' ∧ w'.cell? ⟨w.heap.size,0,none⟩ = some (.slice A n c) ∧ w'.cell? ⟨w.heap.size + 1,0,none⟩ = some (.slice D m d) ∧ Blk w' (w.heap.size + 1 + 1) 37 #[.slice none 0 0])
  (first|(exact⟨hb0,g1,g2,hk0⟩)|(go_split_ands;(repeat' apply And.intro);all_goals (first|with_reducible assumption|exact zab (by with_reducible assumption) hb|exact zac hb (by with_reducible assumption)|exact zaa hb (by with_reducible assumption)|exact zaj _ (by with_reducible assumption)|exact zal _ (by with_reducible assumption)|exact Blk.alloc (by with_reducible assumption) _|exact zae _ (by simp;omega) (by with_reducible assumption)|exact zag _ (by simp;omega) (by with_reducible assumption)|exact Blk.far (by with_reducible assumption) (by simp;omega) _)))
  (first
    |(go_at_call 147;refine(zbQ x _ _ _ _).mono ?_;rintro e w' ⟨rfl,hb⟩))
 rename_i w1 hb1 hH
 obtain⟨hB,g1,g2,hk⟩:=hH
 have hgs:w.heap.size+3<=w'.heap.size:=by
  have h1:=hb1.size
  have h2:=hb.size
  have h3:W0.drew.heap.size=W0.heap.size:=rfl
  omega
 have hZ0:=Blk.new w' 160 Z
 generalize w'.alloc (.cells Z 160)=W1 at*
 generalize w'.heap.size=gs at*
 clear hmk hmx1 hmx2 hmx3 hb hb1 hb0 hk0 b1 b4 b5 hw1
 go_wp2_with fail
 go_loopg [6,7,17] (N + 2) (fun g v _ i wr => ∃ (k cc : Nat) (cs : Array Value) (out : List Nat),k ≤ N + 1 ∧ N + 1 < g + k ∧ i = .int .i64 k ∧ v = .int .u64 cc ∧ AddB x y k out cc ∧ cs.size = N + 1 ∧ cs.toList.take k = zaA .u64 out ∧ Blk wr gs 160 cs ∧
   Below w.heap.size w wr/\wr.cell? ⟨w.heap.size,0,none⟩=some (.slice A n c)/\wr.cell? ⟨w.heap.size+1,0,none⟩=some (.slice D m d)/\Blk wr (w.heap.size+1+1) 37 #[.slice none 0 0])
 case atStart=>exact⟨0,0,Z,[],by omega,by omega,rfl,rfl,AddB.start x y,HZ.out,rfl,hZ0,hB,g1,g2,hk⟩
 case round=>
  clear hB g1 g2 hk hZ0
  obtain⟨k,cc,cs,out,hk,hg,rfl,rfl,hat,hsz,htk,hcs,hB,g1,g2,hkr⟩:=hrel
  have hcc:=hat.carry
  by_cases hlt:k<N+1
  ·have hst:=hat.step (s:=wd x k+wd y k+cc) rfl
   have ha1:=zcp x k
   have ha2:=zcp y k
   have WX:=lh9 (λw' (h:Below w.heap.size w w')=>zdE x A n c k w' (HA.out w' h))
   have WY:=lh9 (λw' (h:Below w.heap.size w w')=>zdE y D m d k w' (HD.out w' h))
   obtain⟨a,ha⟩:∃a,wd x k=a:=⟨_,rfl⟩
   obtain⟨b,hb⟩:∃a,wd y k=a:=⟨_,rfl⟩
   rw [ha] at WX ha1 hst
   rw [hb] at WY ha2 hst
   have WA:∀w',Calls Tryz.prog 230 #[.int .u64 a,.int .u64 b,.int .u64 cc] w' λe w''=>e=.returned (.tuple #[.int .u64 (((a+b+cc)%18446744073709551616:Nat):Int),.int .u64 (((a+b+cc) / 18446744073709551616:Nat):Int)])/\w'=w'':=λw'=>by
    rw [<-zkC hcc,<-zkB hcc]
    exact znH a b cc ⟨by omega,by omega⟩ ⟨by omega,by omega⟩ ⟨by omega,by omega⟩ w'
   have HST:=lh9 hst
   have HSZ:=lh9 hsz
   have HTK:=lh9 htk
   obtain⟨s1,e1⟩:∃s1,(a+b+cc)%18446744073709551616=s1:=⟨_,rfl⟩
   obtain⟨s2,e2⟩:∃s2,(a+b+cc) / 18446744073709551616=s2:=⟨_,rfl⟩
   rw [e1,e2] at WA HST
   have HWA:=lh9 WA
   obtain⟨u,hu⟩:∃u,cs[k]?=some u:=⟨cs[k]'(by omega),Array.getElem?_eq_getElem (by omega)⟩
   have HU:=lh9 hu
   clear WA hst ha hb e1 e2 hat htk hu hsz
   have i1:(0:Int)<=(k:Int):=by omega
   have i2:(k:Int)<(N:Int)+1:=by omega
   go_wp2_with fail
   have hb0:=hB.drew
   have hk0:=hkr.drew
   have hc0:=hcs.drew
   go_region_held3 (λw'=>Below w.heap.size w w'/\w'.cell? ⟨w.heap.size,0,none⟩=some (.slice A n c)/\w'.cell? ⟨w.heap.size+1,0,none⟩=some (.slice D m d)/\Blk w' (w.heap.size+1+1) 37 #[.slice none 0 0])
   (first | (exact ⟨hb0,g1,g2,hk0⟩) | (go_split_ands; (repeat' apply And.intro); all_goals (first | with_reducible assumption | exact zab (by with_reducible assumption) hb | exact zac hb (by with_reducible assumption) | exact zaa hb (by with_reducible assumption) | exact zaj _ (by with_reducible assumption) | exact zal _ (by with_reducible assumption) | exact Blk.alloc (by with_reducible assumption) _ | exact zae _ (by simp; omega) (by with_reducible assumption) | exact zag _ (by simp; omega) (by with_reducible assumption) | exact Blk.far (by with_reducible assumption) (by simp; omega) _)))
     (first
       |(go_at_call 164;with_reducible refine(WX.out _ (by first|with_reducible assumption|exact And.left (by with_reducible assumption))).mono ?_;rintro e w' ⟨rfl,hb⟩;have hk2:Blk w' gs 160 cs:=zaa hb (by with_reducible assumption);have q1:=(hk2.cell k).trans HU.out;have q2:=hk2.frozen k)
       |(go_at_call 164;with_reducible refine(WY.out _ (by first|with_reducible assumption|exact And.left (by with_reducible assumption))).mono ?_;rintro e w' ⟨rfl,hb⟩;have hk2:Blk w' gs 160 cs:=zaa hb (by with_reducible assumption);have q1:=(hk2.cell k).trans HU.out;have q2:=hk2.frozen k)
       |(go_at_call 230;with_reducible refine(HWA.out _).mono ?_;rintro e w'' ⟨rfl,rfl⟩))
   rename_i hH
   obtain⟨hB2,g3,g4,hk3⟩:=hH
   have hk4:=hk2.set_ k (.int .u64 s1)
   clear hb hk2 q1 q2 hb0 hk0 hc0 hB g1 g2 hkr hcs
   go_wp2
   go_roundg (N+1 - k)
   case measure=>omega
   case rel=>exact⟨k+1,s2,_,_,by omega,by omega,by go_num,rfl,HST.out,by simpa using HSZ.out,by rw [zkf _ _ _ (by have:=HSZ.out;omega),HTK.out,zeN],hk4,hB2,g3,g4,hk3⟩
  ·have hkN:k=N+1:=by omega
   subst hkN
   have e:=hat.done (by have:=hln.out;omega) (by have:=hlm.out;omega)
   have hol:out.length=N+1:=hat.len
   have T:=zfH (some ⟨gs,0,none⟩) (N+1) (N+1) wr.heap.size out wr (zdR hcs hsz htk hol) hat.dgs (Nat.le_refl _) (by omega) (by omega)
   rw [e] at T
   have HT:=lh9 T
   have hc1:wr.cell? ⟨w.heap.size+1+1,0,none⟩=some (.slice none 0 0):=hkr.cell 0
   have hf1:=hkr.frozen 0
   clear T hcs hsz htk hat e hol hkr g1 g2
   go_wp2_with fail
   refine HT.out.mono ?_
   rintro e w2 ⟨A1,c1,rfl,hr1,h1,h2,hA1,rfl⟩
   have G:=zgo hB (p:=w.heap.size+1+1) (gs:=gs) (by omega) (by omega) hr1 h1 h2 hA1 (by omega) (.slice A1 (dg 18446744073709551616 (x+y)).length c1)
   have HG:Hid (zaO w (x+y) (.returned (.agg #[.slice A1 (dg 18446744073709551616 (x+y)).length c1])) (wr.setCell ⟨w.heap.size+1+1,0,none⟩ (.slice A1 (dg 18446744073709551616 (x+y)).length c1))):=⟨_,_,_,rfl,G.2.1,G.1,G.2.2⟩
   clear G hr1 h1 h2 hA1
   obtain⟨L,hL⟩:∃L,(dg 18446744073709551616 (x+y)).length=L:=⟨_,rfl⟩
   rw [hL] at HG⊢
   clear hL
   go_wp2
   refine bodyPost_ret (v:=.agg #[.slice A1 L c1]) (by simp [results,Tryz.results217,go_sem,hc1]) rfl ?_
   exact HG.out
theorem zoE (x y:Nat)(A D:oA9)(n m c d:Nat)(w:World)(hA:zad w x A n c)(hD:zad w y D m d)(hn:n<=549755813888)(hm:m<=549755813888)(hlt:x<y):
  Calls Tryz.prog 218 #[.agg #[.slice A n c],.agg #[.slice D m d]] w (zga w 0 false):=by
 have CC:=lh9 (λw' (hb:Below w.heap.size w w')=>zfe x y A D n m c d w' (hA.below hb) (hD.below hb) (by omega) (by omega))
 rw [zei hlt] at CC
 clear hA hD hlt
 go_enter Tryz.func218,Tryz.ntmps218
 go_wp2_with fail
 generalize hW:((w.alloc (.cells #[.slice A n c] 37)).alloc (.cells #[.slice D m d] 37)).alloc (.cells #[.slice none 0 0] 37)=W0
 obtain⟨b1,b2,b3,b4,b5⟩:=zbL w 37 37 37 #[.slice A n c] #[.slice D m d] #[.slice none 0 0]
 rw [hW] at b1 b2 b3 b4 b5
 clear hW b2 b3
 refine(CC.out _ b1).mono ?_
 rintro e w1 ⟨rfl,hb⟩
 have hB:=zab b1 hb
 have hk:=zaa hb b4
 have hc1:w1.cell? ⟨w.heap.size+1+1,0,none⟩=some (.slice none 0 0):=hk.cell 0
 have hf1:=hk.frozen 0
 have HG:Hid (zga w 0 false (.returned (.tuple #[.agg #[.slice none 0 0],.bool false])) (w1.setCell ⟨w.heap.size+1+1,0,none⟩ (.slice none 0 0))):=⟨_,_,_,rfl,zgU _,zae _ (by show _<=w.heap.size+1+1;omega) hB,zew.none_ _⟩
 clear hB hk hb b1 b4
 go_wp2
 refine bodyPost_ret (v:=.tuple #[.agg #[.slice none 0 0],.bool false]) (by simp [results,Tryz.results218,go_sem,hc1]) rfl ?_
 exact HG.out
theorem zpC (x y:Nat)(A D:oA9)(n m c d:Nat)(w:World)(hA:zad w x A n c)(hD:zad w y D m d)(hn:n<=549755813888)(hm:m<=549755813888)(hle:y<=x):
  Calls Tryz.prog 218 #[.agg #[.slice A n c],.agg #[.slice D m d]] w (zga w (x - y) true):=by
 obtain⟨i0,hi0,hz0,hz1,hz2⟩:=info_parts zgx
 have hln:=lh9 hA.len
 have HA:=lh9 (λw' (hb:Below w.heap.size w w')=>hA.below hb)
 have HD:=lh9 (λw' (hb:Below w.heap.size w w')=>hD.below hb)
 have HLE:=lh9 hle
 have hz0':=cmpI_ge hle
 have CC:=(λw' (hb:Below w.heap.size w w')=>zfe x y A D n m c d w' (hA.below hb) (hD.below hb) (by omega) (by omega))
 obtain⟨z,hz⟩:∃z,zcC x y=z:=⟨_,rfl⟩
 rw [hz] at CC hz0'
 have HC:=lh9 CC
 have hzl:¬ z<0:=by omega
 have hzd:decide (z<0)=false:=by simpa using hz0'
 obtain⟨Z,hZ⟩:∃Z,madeCells (Value.cells (.int .u64 0)) (n*i0.size)=Z:=⟨_,rfl⟩
 have HZ:Hid (Z.size=n):=by show _=_;rw [<-hZ,size_madeCells,hz1,Nat.mul_one]
 have hmk:∀W:World,(Instr.makeSlice 35 (.int .i64 (n:Int)) (.int .i64 (n:Int))).run Tryz.prog W=.ok (.slice (some ⟨W.heap.size,0,none⟩) n n) (W.alloc (.cells Z 160)):=λW=>by
  rw [<-hZ];exact zaW _ _ i0 _ Tryz.underlying35 hi0 hz0 _ _ n n (Nat.le_refl _) (by rw [hz2];omega) (by omega) W
 clear hZ hA hD hle CC hz
 go_enter Tryz.func218,Tryz.ntmps218
 go_wp2_with fail
 generalize hW:((w.alloc (.cells #[.slice A n c] 37)).alloc (.cells #[.slice D m d] 37)).alloc (.cells #[.slice none 0 0] 37)=W0
 obtain⟨b1,b2,b3,b4,b5⟩:=zbL w 37 37 37 #[.slice A n c] #[.slice D m d] #[.slice none 0 0]
 rw [hW] at b1 b2 b3 b4 b5
 have g1:W0.cell? ⟨w.heap.size,0,none⟩=some (.slice A n c):=b2.cell 0
 have g2:W0.cell? ⟨w.heap.size+1,0,none⟩=some (.slice D m d):=b3.cell 0
 clear hW b2 b3
 refine(HC.out _ b1).mono ?_
 rintro e w1 ⟨rfl,hb⟩
 have hB:=zab b1 hb
 have hk:=zaa hb b4
 have g3:=zac hb g1
 have g4:=zac hb g2
 have hs1:=hb.size
 clear hb g1 g2 b1 b4
 go_wp2_with fail
 refine(zbQ x _ _ _ _).mono ?_
 rintro e w2 ⟨rfl,hb⟩
 have hB:=zab hB hb
 have hk:=zaa hb hk
 have g1:=zac hb g3
 have g2:=zac hb g4
 have hs2:=hb.size
 have hgs:w.heap.size+3<=w2.heap.size:=by omega
 clear hb g3 g4 hs1 hs2 b5
 go_wp2_with fail
 have hZ0:=Blk.new w2 160 Z
 have hB:=zaj (.cells Z 160) hB
 have hk:=hk.alloc (.cells Z 160)
 have g1:=zal (.cells Z 160) g1
 have g2:=zal (.cells Z 160) g2
 generalize w2.alloc (.cells Z 160)=W1 at*
 generalize w2.heap.size=gs at*
 clear hmk
 go_loopg [7,8,19] (n + 1) (fun g v _ i wr => ∃ (k cc : Nat) (cs : Array Value) (out : List Nat),k ≤ n ∧ n < g + k ∧ i = .int .i64 k ∧ v = .int .u64 cc ∧ SubB x y k out cc ∧ cs.size = n ∧ cs.toList.take k = zaA .u64 out ∧ Blk wr gs 160 cs ∧
   Below w.heap.size w wr/\wr.cell? ⟨w.heap.size,0,none⟩=some (.slice A n c)/\wr.cell? ⟨w.heap.size+1,0,none⟩=some (.slice D m d)/\Blk wr (w.heap.size+1+1) 37 #[.slice none 0 0])
 case atStart=>exact⟨0,0,Z,[],by omega,by omega,rfl,rfl,SubB.start x y,HZ.out,rfl,hZ0,hB,g1,g2,hk⟩
 case round=>
  clear hB g1 g2 hk hZ0
  obtain⟨k,cc,cs,out,hk,hg,rfl,rfl,hat,hsz,htk,hcs,hB,g1,g2,hkr⟩:=hrel
  have hcc:=hat.lack
  by_cases hlt:k<n
  ·have hst:=λd c'=>hat.step (d:=d) (c':=c')
   have ha1:=zcp x k
   have ha2:=zcp y k
   have hWA:=(HA.out wr hB).1
   obtain⟨ad,rfl,hadb,hx⟩:=zdv hWA hlt
   have hadw:ad.block<w.heap.size:=by
    obtain⟨ad',e,hb',_⟩:=(HA.out w (Below.refl _ _)).1.2 (by omega)
    cases e
    exact hb'
   rw [zeu] at hx
   have WY:=lh9 (λw' (h:Below w.heap.size w w')=>zdE y D m d k w' (HD.out w' h))
   obtain⟨a,ha⟩:∃a,wd x k=a:=⟨_,rfl⟩
   obtain⟨b,hb⟩:∃a,wd y k=a:=⟨_,rfl⟩
   rw [ha] at hx ha1 hst
   rw [hb] at WY ha2 hst
   obtain⟨s1,s2,e1,e2,e3,e4,e5⟩:=zmh ha1 ha2 hcc
   have WA:∀w',Calls Tryz.prog 231 #[.int .u64 a,.int .u64 b,.int .u64 cc] w' λe w''=>e=.returned (.tuple #[.int .u64 (s1:Int),.int .u64 (s2:Int)])/\w'=w'':=λw'=>by
    rw [<-e1,<-e2]
    exact znK a b cc ⟨by omega,by omega⟩ ⟨by omega,by omega⟩ ⟨by omega,by omega⟩ w'
   have HST:=lh9 (hst s1 s2 e3 e4 e5)
   have HSZ:=lh9 hsz
   have HTK:=lh9 htk
   have HWA:=lh9 WA
   obtain⟨u,hu⟩:∃u,cs[k]?=some u:=⟨cs[k]'(by omega),Array.getElem?_eq_getElem (by omega)⟩
   have HU:=lh9 hu
   clear WA hst ha hb e1 e2 e3 e4 e5 hat htk hu hsz hWA hadb
   have i1:(0:Int)<=(k:Int):=by omega
   have i2:(k:Int)<(n:Int):=by omega
   go_wp2_with fail
   have hb0:=hB.drew
   have hk0:=hkr.drew
   have hc0:=hcs.drew
   have hx0:wr.drew.cell? (ad.add k)=some (.int .u64 a):=hx
   go_region_held3 (fun w' => Below w.heap.size w w' ∧ w'.cell? ⟨w.heap.size,0,none⟩ = some (.slice (some ad) n c) ∧ w'.cell? ⟨w.heap.size + 1,0,none⟩ = some (.slice D m d) ∧ Blk w' (w.heap.size + 1 + 1) 37 #[.slice none 0 0] ∧ w'.cell? (ad.add k) = some (.int .u64 a))
    (first|(exact⟨hb0,g1,g2,hk0,hx0⟩)|(go_split_ands;(repeat' apply And.intro);all_goals (first|with_reducible assumption|exact zab (by with_reducible assumption) hb|exact zac hb (by with_reducible assumption)|exact zaa hb (by with_reducible assumption)|exact zaj _ (by with_reducible assumption)|exact zal _ (by with_reducible assumption)|exact Blk.alloc (by with_reducible assumption) _|exact zae _ (by simp;omega) (by with_reducible assumption)|exact zag _ (by simp;omega) (by with_reducible assumption)|exact zag _ (by rw [zap];simp;omega) (by with_reducible assumption)|exact Blk.far (by with_reducible assumption) (by simp;omega) _)))
    (first
      |(go_at_call 164;with_reducible refine(WY.out _ (by first|with_reducible assumption|exact And.left (by with_reducible assumption))).mono ?_;rintro e w' ⟨rfl,hb⟩;have hk2:Blk w' gs 160 cs:=zaa hb (by with_reducible assumption);have q1:=(hk2.cell k).trans HU.out;have q2:=hk2.frozen k)
      |(go_at_call 231;with_reducible refine(HWA.out _).mono ?_;rintro e w'' ⟨rfl,rfl⟩))
   rename_i hH
   obtain⟨hB2,g3,g4,hk3,_⟩:=hH
   have hk4:=hk2.set_ k (.int .u64 s1)
   clear hb hk2 q1 q2 hb0 hk0 hc0 hB g1 g2 hkr hcs hx hx0
   go_wp2
   go_roundg (n - k)
   case measure=>omega
   case rel=>exact⟨k+1,s2,_,_,by omega,by omega,by go_num,rfl,HST.out,by simpa using HSZ.out,by rw [zkf _ _ _ (by have:=HSZ.out;omega),HTK.out,zeN],hk4,hB2,g3,g4,hk3⟩
  ·have hkN:k=n:=by omega
   subst hkN
   have e:=hat.done HLE.out (by have:=hln.out;omega)
   have hol:out.length=k:=hat.len
   have T:=zfH (some ⟨gs,0,none⟩) k k wr.heap.size out wr (zdR hcs hsz htk hol) hat.dgs (Nat.le_refl _) (by omega) (by omega)
   rw [e] at T
   have HT:=lh9 T
   have hc1:wr.cell? ⟨w.heap.size+1+1,0,none⟩=some (.slice none 0 0):=hkr.cell 0
   have hf1:=hkr.frozen 0
   clear T hcs hsz htk hat e hol hkr g1 g2
   go_wp2_with fail
   refine HT.out.mono ?_
   rintro e w2 ⟨A1,c1,rfl,hr1,h1,h2,hA1,rfl⟩
   have G:=zgo hB (p:=w.heap.size+1+1) (gs:=gs) (by omega) (by omega) hr1 h1 h2 hA1 (by omega) (.slice A1 (dg 18446744073709551616 (x - y)).length c1)
   have HG:Hid (zga w (x - y) true (.returned (.tuple #[.agg #[.slice A1 (dg 18446744073709551616 (x - y)).length c1],.bool true])) (wr.setCell ⟨w.heap.size+1+1,0,none⟩ (.slice A1 (dg 18446744073709551616 (x - y)).length c1))):=⟨_,_,_,rfl,G.2.1,G.1,G.2.2⟩
   clear G hr1 h1 h2 hA1
   obtain⟨L,hL⟩:∃L,(dg 18446744073709551616 (x - y)).length=L:=⟨_,rfl⟩
   rw [hL] at HG⊢
   clear hL
   go_wp2
   refine bodyPost_ret (v:=.tuple #[.agg #[.slice A1 L c1],.bool true]) (by simp [results,Tryz.results218,go_sem,hc1]) rfl ?_
   exact HG.out
