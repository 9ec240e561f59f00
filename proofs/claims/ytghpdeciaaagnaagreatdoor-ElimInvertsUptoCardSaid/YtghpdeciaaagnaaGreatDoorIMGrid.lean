/- What this claim leans on. -/
import Derived.Test.YtghpdeciaaagnaaGreatDoorIMNew
namespace Go.Proofs.YtghpdeciaaagnaaGreatDoor
open Go Go.RowKit
set_option maxHeartbeats 16000000
set_option maxRecDepth 100000
set_option linter.unusedVariables false
set_option linter.unusedSimpArgs false
theorem fracs_ne {w:World}{A:oA9}{n c g:Nat}{L:List (Int×Int)}{t:TypeId}{cs:Array Value}(h:zbq w A n c L)(hk:Blk w g t cs)(hs:∀u ∈ cs.toList,zcr u):0<n->∀ad,A=some ad->ad.block≠g:=λhn ad0 e0 hg=>by
 have hl:=h.len
 have h0:0<L.length:=by omega
 obtain⟨ad,e,h1,h2,h3⟩:=h.row 0 _ (List.getElem?_eq_getElem h0)
 obtain rfl:ad0=ad:=by rw [e0] at e;injection e
 have hb:(ad0.add (0*2)).block=g:=by rw [zap];exact hg
 generalize ad0.add (0*2)=q at hb h2
 obtain⟨bk,off,pr⟩:=q
 simp only at hb
 subst hb
 unfold Blk at hk
 cases pr with
 |none=>
   rw [show w.cell? ⟨bk,off,none⟩=cs[off]? from cell_of_row w bk off _ t (0,0) hk,<-Array.getElem?_toList] at h2
   obtain⟨A9,n9,c9,e9⟩:=hs _ (List.mem_of_getElem? h2)
   cases e9
 |some q=>simp [World.cell?,hk] at h2
theorem zdW:zbW zbq where
 len h:=h.len
 below h hb:=h.below hb
 offS h hk hs ho:=by
  have hne:=fracs_ne h hk hs
  have hl:=h.len
  refine⟨h.len,h.fits,h.small,h.ints,λr q hr=>?_⟩
  have hlt:=(List.getElem?_eq_some_iff.1 hr).1
  obtain⟨ad,e,h1,h2,h3⟩:=h.row r q hr
  exact⟨ad,e,Nat.lt_of_lt_of_le h1 ho.1,(ho.2 _ (by rw [zap];exact h1) (by rw [zap];exact hne (by omega) ad e)).trans h2,(ho.2 _ (by rw [zap];exact h1) (by rw [zap];exact hne (by omega) ad e)).trans h3⟩
 nil w:=⟨rfl,Nat.le_refl _,by decide,(λq hq=>by cases hq),(λr q hr=>by simp at hr)⟩
def zeg (m:Nat)(L:List (Int×Int)):List (Int×Int):=(List.range m).map λj=>L.getD j (0,0)
theorem zdg (m:Nat)(L:List (Int×Int)):(zeg m L).length=m:=by simp [zeg]
theorem zlS {m j:Nat}(L:List (Int×Int))(h:j<m):(zeg m L)[j]?=some (L.getD j (0,0)):=by
 unfold zeg
 rw [List.getElem?_map,List.getElem?_range h];rfl
theorem padL_set {m c:Nat}{L:List (Int×Int)}(hc:c<m)(hl:c<L.length):(zeg m (L.take c)).set c (L.getD c (0,0))=zeg m (L.take (c+1)):=by
 apply List.ext_getElem?
 intro j
 by_cases hj:j<m
 ·rw [zlS _ hj]
  by_cases h:c=j
  ·subst h
   rw [List.getElem?_set_self (by rw [zdg];exact hc)]
   congr 1
   rw [List.getD_eq_getElem?_getD,List.getD_eq_getElem?_getD,List.getElem?_take,if_pos (by omega)]
  ·rw [List.getElem?_set_ne h,zlS _ hj]
   congr 1
   rw [List.getD_eq_getElem?_getD,List.getD_eq_getElem?_getD,List.getElem?_take,List.getElem?_take]
   by_cases h2:j<c
   ·rw [if_pos h2,if_pos (by omega)]
   ·rw [if_neg h2,if_neg (by omega)]
 ·rw [List.getElem?_eq_none (by rw [List.length_set,zdg];omega),List.getElem?_eq_none (by rw [zdg];omega)]
theorem zkY {m c:Nat}{L:List (Int×Int)}(h:c=m\/L.length<=c):zeg m (L.take c)=zeg m L:=by
 unfold zeg
 refine List.map_congr_left λj hj=>?_
 have hj:=List.mem_range.1 hj
 rcases h with h|h
 ·rw [List.getD_eq_getElem?_getD,List.getD_eq_getElem?_getD,List.getElem?_take,if_pos (by omega)]
 ·rw [List.take_of_length_le h]
theorem zhS {m:Nat}{L:List (Int×Int)}(h:∀q ∈ L,zcG q.1/\zcG q.2):∀q ∈ zeg m L,zcG q.1/\zcG q.2:=λq hq=>by
 obtain⟨j,hj,rfl⟩:=List.mem_map.1 hq
 rw [List.getD_eq_getElem?_getD]
 cases e:L[j]? with
 |none=>exact⟨⟨by decide,by decide⟩,⟨by decide,by decide⟩⟩
 |some q=>exact h q (List.mem_of_getElem? e)
structure zgr (w:World)(g m:Nat)(L:List (Int×Int)):Prop where
 len:L.length=m
 blk:∃cs:Array Value,Blk w g 127 cs/\cs.size=m*2
 num:∀j q,L[j]?=some q->w.cell? ⟨g,j*2,none⟩=some (.int .i64 q.1)/\w.cell? ⟨g,j*2+1,none⟩=some (.int .i64 q.2)
theorem zgr.below {w w':World}{g m:Nat}{L:List (Int×Int)}(h:zgr w g m L)(hb:Below w.heap.size w w'):zgr w' g m L:=by
 refine⟨h.len,?_,λj q hj=>?_⟩
 ·obtain⟨cs,hk,h1⟩:=h.blk
  exact⟨cs,zaa hb hk,h1⟩
 ·obtain⟨h1,h2⟩:=h.num j q hj
  exact⟨zac hb h1,zac hb h2⟩
theorem zgr.args {w:World}{g m:Nat}{L:List (Int×Int)}(h:zgr w g m L)(hi:∀q ∈ L,zcG q.1/\zcG q.2)(hm:m<=1048576):zbq w (some ⟨g,0,none⟩) m m L:=
 ⟨h.len,Nat.le_refl _,hm,hi,λr q hr=>by
  obtain⟨cs,hk,_⟩:=h.blk
  obtain⟨h1,h2⟩:=h.num r q hr
  exact⟨_,rfl,hk.lt,by rw [zaP];exact h1,by rw [zaP];exact h2⟩⟩
theorem zgr.ready {w:World}{g m:Nat}{L:List (Int×Int)}(h:zgr w g m L){i:Nat}(hi:i<m)(x:Value):∃a b:Value,w.cell? ⟨g,i*2,none⟩=some a/\w.frozen? ⟨g,i*2,none⟩=false/\(w.setCell ⟨g,i*2,none⟩ x).cell? ⟨g,i*2+1,none⟩=some b/\(w.setCell ⟨g,i*2,none⟩ x).frozen? ⟨g,i*2+1,none⟩=false:=by
 obtain⟨cs,hk,h2⟩:=h.blk
 have hk1:=hk.set_ (i*2) x
 have e0:i*2<cs.size:=by omega
 have e1:i*2+1<(cs.setIfInBounds (i*2) x).size:=by simp;omega
 exact⟨_,_,(hk.cell _).trans (Array.getElem?_eq_getElem e0),hk.frozen _,(hk1.cell _).trans (Array.getElem?_eq_getElem e1),hk1.frozen _⟩
theorem zgr.set_ {w:World}{g m:Nat}{L:List (Int×Int)}(h:zgr w g m L){i:Nat}(hi:i<m)(x y:Int):zgr ((w.setCell ⟨g,i*2,none⟩ (.int .i64 x)).setCell ⟨g,i*2+1,none⟩ (.int .i64 y)) g m (L.set i (x,y)):=by
 obtain⟨cs,hk,h2⟩:=h.blk
 have hl:=h.len
 have hk3:=(hk.set_ (i*2) (.int .i64 x)).set_ (i*2+1) (.int .i64 y)
 refine⟨by rw [List.length_set];exact h.len,⟨_,hk3,by simp;exact h2⟩,λj q hj=>?_⟩
 by_cases hij:i=j
 ·subst hij
  rw [List.getElem?_set_self (by omega)] at hj
  injection hj with hj
  subst hj
  refine⟨?_,?_⟩
  ·rw [hk3.cell,Array.getElem?_setIfInBounds_ne (by omega),Array.getElem?_setIfInBounds_self_of_lt (by omega)]
  ·rw [hk3.cell,Array.getElem?_setIfInBounds_self_of_lt (by simp;omega)]
 ·rw [List.getElem?_set_ne hij] at hj
  obtain⟨c1,c2⟩:=h.num j q hj
  refine⟨?_,?_⟩
  ·rw [hk3.cell,Array.getElem?_setIfInBounds_ne (by omega),Array.getElem?_setIfInBounds_ne (by omega),<-hk.cell];exact c1
  ·rw [hk3.cell,Array.getElem?_setIfInBounds_ne (by omega),Array.getElem?_setIfInBounds_ne (by omega),<-hk.cell];exact c2
def znN:Array Value:=#[.int .i64 0,.int .i64 0]
theorem zgr.made (w:World)(n:Nat):zgr (w.alloc (.cells (madeCells znN (n*2)) 127)) w.heap.size n (zeg n ([]:List (Int×Int))):=by
 have hk:=Blk.new w 127 (madeCells znN (n*2))
 refine⟨zdg _ _,⟨_,hk,size_madeCells _ _⟩,λi x hi=>?_⟩
 have hlt:i<n:=by
  have:=(List.getElem?_eq_some_iff.1 hi).1
  rwa [zdg] at this
 rw [zlS _ hlt] at hi
 injection hi with hi
 subst hi
 have e0:(i*2)%2=0:=by omega
 have e1:(i*2+1)%2=1:=by omega
 refine⟨?_,?_⟩
 ·rw [hk.cell,zbF _ _ _ (by omega),show znN.size=2 from rfl,e0];rfl
 ·rw [hk.cell,zbF _ _ _ (by omega),show znN.size=2 from rfl,e1];rfl
theorem infoF11:(Tryz.prog.info? 127).map (λi=>(i.zero,i.size,i.bytes))=some (some (.agg #[.int .i64 0,.int .i64 0]),2,16):=by kernel_rfl
theorem infoFF11:(Tryz.prog.info? 57).map (λi=>(i.zero,i.size,i.bytes))=some (some (.slice none 0 0),1,24):=by kernel_rfl
theorem zow (n:Nat)(hn:n<=1048576):∃Z:Array Value,∀W:World,(Instr.makeSlice 57 (.int .i64 (n:Int)) (.int .i64 (n:Int))).run Tryz.prog W=.ok (.slice (some ⟨W.heap.size,0,none⟩) n n) (W.alloc (.cells Z 127))/\zgr (W.alloc (.cells Z 127)) W.heap.size n (zeg n ([]:List (Int×Int))):=by
 obtain⟨i0,hi0,hz0,hz1,hz2⟩:=info_parts infoF11
 refine⟨madeCells znN (n*2),λW=>⟨?_,zgr.made W n⟩⟩
 have h:=zaW (P:=Tryz.prog) _ _ i0 _ Tryz.underlying57 hi0 hz0 .i64 .i64 n n (Nat.le_refl _) (by rw [hz2];omega) (by omega) W
 rw [hz1] at h
 exact h
def zdA (m:Nat)(R:zja)(k:Nat):List (List (Int×Int)):=(List.range k).map λi=>zeg m (R i).2.2.2
theorem zhQ (m:Nat)(R:zja)(k:Nat):(zdA m R k).length=k:=by simp [zdA]
theorem zon (m:Nat)(R:zja)(k:Nat):zdA m R (k+1)=zdA m R k++[zeg m (R k).2.2.2]:=by simp [zdA,List.range_succ]
def zkA (w:World)(n m:Nat)(Ls:List (List (Int×Int)))(e:Ending)(w':World):Prop:=∃(Q:oA9) (q:Nat),e=.returned (.tuple #[.slice Q n q,.int .i64 (m:Int)])/\zaB zbq w' Q n Ls/\Below w.heap.size w w'
theorem zou {z:Nat}{A:oA9}{n c:Nat}{R:zja}{w:World}(hz:z<=255)(h:zbf w A n c R):
  Calls Tryz.prog 63 #[.agg #[.int .u8 (z:Int),.slice A n c]] w (zkA w (min n 6) (z%7) (zdA (z%7) R (min n 6))):=by
 obtain⟨i9,hi9,hz9,hz10,hz11⟩:=info_parts infoFF11
 have hn0:n<=1048576:=Nat.le_trans h.fits h.small
 obtain⟨m,hm⟩:∃m,z%7=m:=⟨_,rfl⟩
 have hm6:m<=6:=by omega
 have hzm:(z:Int)%7=(m:Int):=by omega
 have hzt:(z:Int).tmod 7=(m:Int):=by rw [Int.tmod_eq_emod_of_nonneg (by omega)];exact hzm
 rw [hm]
 obtain⟨N,hN⟩:∃N,min n 6=N:=⟨_,rfl⟩
 rw [hN]
 have hNn:N<=n:=by omega
 have hN6:N<=6:=by omega
 have hNe:N=n\/N=6:=by omega
 have HR:=lh9 (λw' (hb:Below w.heap.size w w') k (hk:k<n)=>by
  obtain⟨ad,e,h1,h2,h3⟩:=h.row k hk
  exact(⟨ad,e,zac hb h2,h3.below hb⟩:∃ad,A=some ad/\w'.cell? (ad.add k)=some (.slice (R k).1 (R k).2.1 (R k).2.2.1)/\zbq w' (R k).1 (R k).2.1 (R k).2.2.1 (R k).2.2.2))
 obtain⟨bx1,bx2,bz⟩:=zav w 24 #[.int .u8 (z:Int),.slice A n c]
 obtain⟨g0,g1⟩:=bx2.c2
 obtain⟨Z,hZ⟩:=zow m (by omega)
 have hmk:=λW=>(hZ W).1
 have HOWNF:=lh9 (λW=>(hZ W).2)
 have hB:=bx1
 have hK:=bx2
 clear bx1 bx2 bz h hZ hN hz
 unfold zkA
 have i0:(0:Int)<=(m:Int):=by omega
 go_enter Tryz.func63,Tryz.ntmps63
 go_upto_region 3 with fail
 clear hm hzm hzt g0 g1
 go_wp2_with fail
 generalize w.alloc (.cells #[.int .u8 (z:Int),.slice A n c] 24)=W1 at*
 go_loopg [5,6] (N+1) (λg sl ix wr=>∃(k:Nat) (v:Value) (vs:List Value),k<=N/\N<g+k/\ix=.int .i64 k/\v=sl/\zbv zbq wr (w.heap.size+1) 57 v (zdA m R k) vs/\Below w.heap.size w wr/\Blk wr w.heap.size 24 #[.int .u8 (z:Int),.slice A n c])
 case atStart=>exact⟨0,_,_,Nat.zero_le _,by omega,rfl,rfl,zbv.nil _ _ _,hB,hK⟩
 case round=>
  clear hB hK
  obtain⟨k,v,vs,hkN,hg,rfl,rfl,hon,hB,hK⟩:=hrel
  obtain⟨wo,hwo⟩:∃wo,wo=wr:=⟨_,rfl⟩
  subst hwo
  obtain⟨g0,g1⟩:=hK.c2
  by_cases hlt:k<N
  ·have hkn:k<n:=by omega
   have hd1:decide ((k:Int)<(n:Int))=true:=decide_eq_true (by omega)
   have hd1':decide (k<n)=true:=decide_eq_true hkn
   have hd2:decide ((k:Int)<6)=true:=decide_eq_true (by omega)
   have hd2':decide (k<6)=true:=decide_eq_true (by omega)
   have i2:(0:Int)<=(k:Int):=by omega
   have i3:(k:Int)<(n:Int):=by omega
   have HLG:Hid ((zdA m R k).length=k):=zhQ _ _ _
   have HGS:Hid (zdA m R (k+1)=zdA m R k++[zeg m (R k).2.2.2]):=zon _ _ _
   have HRK:=lh9 (λw' hb=>HR.out w' hb k hkn)
   obtain⟨q,hq⟩:∃q,R k=q:=⟨_,rfl⟩
   rw [hq] at HGS HRK
   obtain⟨Ak,nk,ck,Lk⟩:=q
   dsimp only at HGS HRK
   clear hq
   obtain⟨ad,rfl,hck,hak⟩:=HRK.out wo hB
   have HIK:=lh9 hak.ints
   have HLK:=lh9 hak.len
   have hnk:nk<=1048576:=Nat.le_trans hak.fits hak.small
   have HB:=lh9 hB
   have HON:=lh9 hon
   have HK:=lh9 hK
   clear hon hB hK hak hck
   go_wp2_with fail
   have hin:=HOWNF.out wo
   have hb1:Below wo.heap.size wo (wo.alloc (.cells Z 127)):=(Below.refl _ wo).alloc (Nat.le_refl _) _
   have hin:zgr (wo.alloc (.cells Z 127)) wo.heap.size m (zeg m (Lk.take 0)):=hin
   obtain⟨gr,hgr⟩:∃g,wo.heap.size=g:=⟨_,rfl⟩
   have hwr:wo.heap.size<=gr:=by omega
   rw [hgr] at hin⊢
   generalize wo.alloc (.cells Z 127)=W2 at*
   clear hgr g0 g1
   go_loopg [8] (m+1) (λg jx wr=>∃(j:Nat),j<=m/\j<=nk/\m<g+j/\jx=.int .i64 j/\zgr wr gr m (zeg m (Lk.take j))/\Below wo.heap.size wo wr)
   case atStart=>exact⟨0,Nat.zero_le _,Nat.zero_le _,by omega,rfl,hin,hb1⟩
   case round=>
    clear hin hb1
    obtain⟨j,hjm,hjn,hg2,rfl,hin,hb1⟩:=hrel
    obtain⟨p0,p1⟩:=(zaa hb1 HK.out).c2
    by_cases hjl:j<m
    ·have he1:decide ((j:Int)<(m:Int))=true:=decide_eq_true (by omega)
     have he1':decide (j<m)=true:=decide_eq_true hjl
     obtain⟨ad2,e2,hc,hak⟩:=HRK.out wr (zab HB.out hb1)
     obtain rfl:ad=ad2:=by injection e2
     clear e2
     by_cases hjk:j<nk
     ·have he2:decide ((j:Int)<(nk:Int))=true:=decide_eq_true (by omega)
      have he2':decide (j<nk)=true:=decide_eq_true hjk
      obtain⟨ae,rfl,hae,hr1,hr2⟩:=hak.row j _ (zbE (d:=(0,0)) (by have:=HLK.out;omega))
      have hr2:=ziF hr2
      have hset:(zeg m (Lk.take j)).set j ((Lk.getD j (0,0)).1,(Lk.getD j (0,0)).2)=zeg m (Lk.take (j+1)):=padL_set hjl (by have:=HLK.out;omega)
      obtain⟨x,hx⟩:∃x,(Lk.getD j (0,0)).1=x:=⟨_,rfl⟩
      obtain⟨y,hy⟩:∃y,(Lk.getD j (0,0)).2=y:=⟨_,rfl⟩
      rw [hx] at hr1 hset
      rw [hy] at hr2 hset
      have i4:(0:Int)<=(j:Int):=by omega
      have i5:(j:Int)<(m:Int):=by omega
      have i6:(j:Int)<(nk:Int):=by omega
      have hin2:=hin.set_ hjl x y
      rw [hset] at hin2
      obtain⟨q0,q1,sc0,sf0,sc1,sf1⟩:=hin.ready hjl (.int .i64 x)
      have HIN2:=lh9 hin2
      have HBN:=lh9 (zae (p:=⟨gr,j*2+1,none⟩) (.int .i64 y) hwr (zae (p:=⟨gr,j*2,none⟩) (.int .i64 x) hwr hb1))
      clear hin hin2 hb1 hak hset hx hy
      go_wp2
      go_roundg (m - j)
      case measure=>omega
      case rel=>exact⟨j+1,by omega,by omega,by omega,by go_num,HIN2.out,HBN.out⟩
     ·have he2:decide ((j:Int)<(nk:Int))=false:=decide_eq_false (by omega)
      have he2':decide (j<nk)=false:=decide_eq_false hjk
      have i5:(k:Int)<(n:Int):=by omega
      have hdone:j=m\/Lk.length<=j:=Or.inr (by have:=HLK.out;omega)
      have hpl:=zkY (m:=m) (L:=Lk) (c:=j) hdone
      have HAF:=lh9 ((hpl▸hin).args (zhS HIK.out) (by omega))
      have HB1:=lh9 (zab HB.out hb1)
      have HON1:=lh9 (HON.out.below zdW hb1)
      obtain⟨t1,t2,-⟩:=zav wr 57 #[.slice (some ⟨gr,0,none⟩) m m]
      have HB2:=lh9 (zab HB1.out t1)
      have HON2:=lh9 (HON1.out.below zdW t1)
      have HAF2:=lh9 (HAF.out.below t1)
      have hown:=HON2.out.own
      rw [HLG.out] at hown
      have HOWN:=lh9 hown
      have HSL:=lh9 HON2.out.sl
      have HCELL:=lh9 (zck wr (.slice (some ⟨gr,0,none⟩) m m) 57)
      have HBS:=lh9 HB2.out.size
      have HOB:=lh9 (λr (h:v.ownBlock=some r)=>HON2.out.own.lt r h)
      have HZS:Hid (∀u ∈(Value.slice none 0 0).cells.toList,zcr u):=by intro u hu;simp [Value.cells] at hu;exact⟨_,_,_,hu⟩
      have HNN:Hid (∀u ∈ [Value.slice (some ⟨gr,0,none⟩) m m],zcr u):=by intro u hu;simp at hu;exact⟨_,_,_,hu⟩
      have HONE:Hid (∀u ∈ [Value.slice (some ⟨gr,0,none⟩) m m],u.oneCell'=true):=by intro u hu;simp at hu;subst hu;rfl
      have HKB2:=lh9 (zaa t1 (zaa hb1 HK.out))
      have HBW:Hid (Below w.heap.size w wr):=HB1.out
      obtain⟨p0,p1⟩:=(zaa hb1 HK.out).c2
      clear hb1 hin t1 t2 hown hpl hdone HAF HB1 HON1
      go_wp2_with (at_builtin;go_loud (refine zcF _ rfl (.tmp 52) (.tmp 54) 22 rfl (w.heap.size+1) 57 i9 (.slice none 0 0) 1 24 Tryz.underlying22 hi9 hz9 hz10 hz11 rfl (by decide) v k vs rfl HOWN.out ⟨wr.heap.size,0,none⟩ 1 1 [.slice (some ⟨gr,0,none⟩) m m] rfl rfl HCELL.out HONE.out (by unfold maxLen;omega) (by omega) (HKB2.out.lt) HSL.out HZS.out HNN.out ?_;intro v' w8 hown' hgrow hat hsl'))
      have hon8:=zbv.grow (n:=k+1) (L:=zeg m Lk) zdW HON2.out HAF2.out (zdg _ _) hown' (by rw [HLG.out]) hgrow hsl'
      rw [<-HGS.out] at hon8
      have HON8:=lh9 hon8
      have HB8:=lh9 (HB2.out.grown hgrow HBS.out (λr hr=>by have:=(HOB.out r hr).1;omega))
      have HK8:Hid (Blk w8 w.heap.size 24 #[.int .u8 (z:Int),.slice (some ad) n c]):=zcw HKB2.out hgrow (λe=>by have:=(HOB.out _ e).1;omega)
      clear hon8 hown' hgrow hat hsl' HON2 HAF2 HOWN HSL HCELL HBS HOB HZS HNN HONE HB2 HKB2 p0 p1
      go_wp2
      go_roundg (N - k)
      case measure=>omega
      case rel=>exact⟨k+1,_,_,by omega,by omega,by go_num,rfl,HON8.out,HB8.out,HK8.out⟩
    ·have he1:decide ((j:Int)<(m:Int))=false:=decide_eq_false (by omega)
     have he1':decide (j<m)=false:=decide_eq_false hjl
     have hdone:j=m\/Lk.length<=j:=Or.inl (by omega)
     have hpl:=zkY (m:=m) (L:=Lk) (c:=j) hdone
     have HAF:=lh9 ((hpl▸hin).args (zhS HIK.out) (by omega))
     have HB1:=lh9 (zab HB.out hb1)
     have HON1:=lh9 (HON.out.below zdW hb1)
     obtain⟨t1,t2,-⟩:=zav wr 57 #[.slice (some ⟨gr,0,none⟩) m m]
     have HB2:=lh9 (zab HB1.out t1)
     have HON2:=lh9 (HON1.out.below zdW t1)
     have HAF2:=lh9 (HAF.out.below t1)
     have hown:=HON2.out.own
     rw [HLG.out] at hown
     have HOWN:=lh9 hown
     have HSL:=lh9 HON2.out.sl
     have HCELL:=lh9 (zck wr (.slice (some ⟨gr,0,none⟩) m m) 57)
     have HBS:=lh9 HB2.out.size
     have HOB:=lh9 (λr (h:v.ownBlock=some r)=>HON2.out.own.lt r h)
     have HZS:Hid (∀u ∈(Value.slice none 0 0).cells.toList,zcr u):=by intro u hu;simp [Value.cells] at hu;exact⟨_,_,_,hu⟩
     have HNN:Hid (∀u ∈ [Value.slice (some ⟨gr,0,none⟩) m m],zcr u):=by intro u hu;simp at hu;exact⟨_,_,_,hu⟩
     have HONE:Hid (∀u ∈ [Value.slice (some ⟨gr,0,none⟩) m m],u.oneCell'=true):=by intro u hu;simp at hu;subst hu;rfl
     have HKB2:=lh9 (zaa t1 (zaa hb1 HK.out))
     have HBW:Hid (Below w.heap.size w wr):=HB1.out
     obtain⟨p0,p1⟩:=(zaa hb1 HK.out).c2
     clear hb1 hin t1 t2 hown hpl hdone HAF HB1 HON1
     go_wp2_with (at_builtin;go_loud (refine zcF _ rfl (.tmp 52) (.tmp 54) 22 rfl (w.heap.size+1) 57 i9 (.slice none 0 0) 1 24 Tryz.underlying22 hi9 hz9 hz10 hz11 rfl (by decide) v k vs rfl HOWN.out ⟨wr.heap.size,0,none⟩ 1 1 [.slice (some ⟨gr,0,none⟩) m m] rfl rfl HCELL.out HONE.out (by unfold maxLen;omega) (by omega) (HKB2.out.lt) HSL.out HZS.out HNN.out ?_;intro v' w8 hown' hgrow hat hsl'))
     have hon8:=zbv.grow (n:=k+1) (L:=zeg m Lk) zdW HON2.out HAF2.out (zdg _ _) hown' (by rw [HLG.out]) hgrow hsl'
     rw [<-HGS.out] at hon8
     have HON8:=lh9 hon8
     have HB8:=lh9 (HB2.out.grown hgrow HBS.out (λr hr=>by have:=(HOB.out r hr).1;omega))
     have HK8:Hid (Blk w8 w.heap.size 24 #[.int .u8 (z:Int),.slice (some ad) n c]):=zcw HKB2.out hgrow (λe=>by have:=(HOB.out _ e).1;omega)
     clear hon8 hown' hgrow hat hsl' HON2 HAF2 HOWN HSL HCELL HBS HOB HZS HNN HONE HB2 HKB2 p0 p1
     go_wp2
     go_roundg (N - k)
     case measure=>omega
     case rel=>exact⟨k+1,_,_,by omega,by omega,by go_num,rfl,HON8.out,HB8.out,HK8.out⟩
  ·have hkN2:k=N:=by omega
   have HLG:Hid ((zdA m R k).length=N):=by rw [hkN2];exact zhQ _ _ _
   obtain⟨Q,q,rfl,hq1,hq2,hrs,-⟩:=hon.shape HLG.out
   rw [hkN2] at hrs
   have HRS:=lh9 hrs
   have HB1:=lh9 hB
   rcases hNe with hNe|hNe
   ·have hd1:decide ((k:Int)<(n:Int))=false:=decide_eq_false (by omega)
    have hd1':decide (k<n)=false:=decide_eq_false (by omega)
    clear hon hB hK hrs hkN2 hlt hNe
    go_wp2
    go_ret2
    exact⟨Q,q,rfl,HRS.out,HB1.out⟩
   ·have hd2:decide ((k:Int)<6)=false:=decide_eq_false (by omega)
    have hd2':decide (k<6)=false:=decide_eq_false (by omega)
    by_cases hkn:k<n
    ·have hd1:decide ((k:Int)<(n:Int))=true:=decide_eq_true (by omega)
     have hd1':decide (k<n)=true:=decide_eq_true (by omega)
     clear hon hB hK hrs hkN2 hlt hNe
     go_wp2
     go_ret2
     exact⟨Q,q,rfl,HRS.out,HB1.out⟩
    ·have hd1:decide ((k:Int)<(n:Int))=false:=decide_eq_false (by omega)
     have hd1':decide (k<n)=false:=decide_eq_false (by omega)
     clear hon hB hK hrs hkN2 hlt hNe
     go_wp2
     go_ret2
     exact⟨Q,q,rfl,HRS.out,HB1.out⟩
def zij (m:Nat)(R:zja)(k:Nat):List (List Rat):=(zdA m R k).map zgt
theorem zgK (m:Nat)(R:zja)(k:Nat):zaN (zij m R k) k m:=⟨by simp [zij,zdA],λL hL=>by
 obtain⟨q,hq,rfl⟩:=List.mem_map.1 hL
 obtain⟨i,hi,rfl⟩:=List.mem_map.1 hq
 rw [zhs,zdg]⟩
theorem zjp {W:World}{A:oA9}{n c m k:Nat}{R:zja}(h:zbf W A n c R)(hk:k<=n):zax 1 (zij m R k):=λL hL x hx=>by
 obtain⟨q,hq,rfl⟩:=List.mem_map.1 hL
 obtain⟨i,hi,rfl⟩:=List.mem_map.1 hq
 obtain⟨p,hp,rfl⟩:=List.mem_map.1 hx
 obtain⟨ad,e,_,_,h3⟩:=h.row i (by have:=List.mem_range.1 hi;omega)
 obtain⟨⟨h4,h5⟩,h6,h7⟩:=zhS (m:=m) h3.ints p hp
 exact qOf_sz h4 h5 h6 h7
theorem zjv {z:Nat}{A:oA9}{n c:Nat}{R:zja}{w:World}(hT:zai w)(hz:z<=255)(h:zbf w A n c R):
  Calls Tryz.prog 13 #[.agg #[.int .u8 (z:Int),.slice A n c]] w (zcm w (min n 6) (z%7) (zij (z%7) R (min n 6))):=by
 obtain⟨i9,hi9,hz9,hz10,hz11⟩:=info_parts zel
 have HZ:=lh9 (zjp (m:=z%7) h (Nat.min_le_left n 6))
 have HD:=lh9 (zgK (z%7) R (min n 6))
 have HI:Hid (∀k,k<min n 6->zcG 0/\(zdA (z%7) R (min n 6)).getD k []=zeg (z%7) (R k).2.2.2):=λk hk=>⟨⟨by decide,by decide⟩,by
  unfold zdA
  rw [List.getD_eq_getElem?_getD,List.getElem?_map,List.getElem?_range hk];rfl⟩
 have HROWS:=lh9 (λW (hb:Below w.heap.size w W)=>zou hz (show zbf W A n c R from⟨h.fits,h.small,λr hr=>by
  obtain⟨ad,e,h1,h2,h3⟩:=h.row r hr
  exact⟨ad,e,Nat.lt_of_lt_of_le h1 hb.size,zac hb h2,h3.below hb⟩⟩))
 obtain⟨m,hm⟩:∃m,z%7=m:=⟨_,rfl⟩
 obtain⟨N,hN⟩:∃N,min n 6=N:=⟨_,rfl⟩
 have hm6:m<=6:=by omega
 have hN6:N<=6:=by omega
 rw [hm,hN] at HZ HD HI HROWS⊢
 have HT:=lh9 (λw' (hb:Below w.heap.size w w')=>hT.on hb)
 have HLG:Hid ((zdA m R N).length=N):=zhQ _ _ _
 obtain⟨G,hG⟩:∃G,zdA m R N=G:=⟨_,rfl⟩
 have hGM:zij m R N=G.map zgt:=by unfold zij;rw [hG]
 rw [hG] at HI HROWS HLG
 rw [hGM] at HZ HD⊢
 have HLR:Hid (∀k,k<N->(G.getD k []).length=m):=λk hk=>by rw [(HI.out k hk).2,zdg]
 have HSU:Hid (∀k,k<N->(G.take (k+1)).map zgt=(G.take k).map zgt++[zgt (G.getD k [])]):=λk hk=>by
  have hl:=HLG.out
  rw [List.take_succ_eq_append_getElem (by omega),List.map_append,List.getD_eq_getElem?_getD,List.getElem?_eq_getElem (by omega)]
  rfl
 obtain⟨bx1,bx2,bx3,bz⟩:=zbI w 24 28 #[.int .u8 (z:Int),.slice A n c] #[.slice none 0 0,.int .i64 0]
 obtain⟨g0,g1⟩:=bx2.c2
 have HB:=lh9 bx1
 have HK:=lh9 bx3
 clear h hT hz hm hN hG hGM bx1 bx2 bx3 bz HI
 unfold zcm
 go_enter Tryz.func13,Tryz.ntmps13
 go_wp2_with fail
 (with_reducible refine(HROWS.out _ HB.out).mono ?_)
 rintro e w1 ⟨Q,q,rfl,hrs,hb⟩
 have HB1:=lh9 (zab HB.out hb)
 have HK1:=lh9 (zaa hb HK.out)
 have HRS:=lh9 hrs
 have hBr:=Below.refl w1.heap.size w1
 clear hb hrs HB HK g0 g1 HROWS
 go_wp2_with fail
 go_loopg [5,6] (N+1) (λg sl ix wr=>∃(k:Nat) (v:Value) (vs:List Value),k<=N/\N<g+k/\ix=.int .i64 k/\v=sl/\zbv (zaI zah) wr w1.heap.size 61 v ((G.take k).map zgt) vs/\Below w1.heap.size w1 wr)
 case atStart=>exact⟨0,_,_,Nat.zero_le _,by omega,rfl,rfl,zbv.nil _ _ _,hBr⟩
 case round=>
  clear hBr
  obtain⟨k,v,vs,hkN,hg,rfl,rfl,hon,hBk⟩:=hrel
  by_cases hlt:k<N
  ·obtain⟨ad,B,d,rfl,-,hc,ha⟩:=HRS.out.get zdW hBk hlt (HLR.out k hlt)
   have hd1:decide ((k:Int)<(N:Int))=true:=decide_eq_true (by omega)
   have i1:(0:Int)<=(k:Int):=by omega
   have i2:(k:Int)<(N:Int):=by omega
   have HSK:=lh9 (HSU.out k hlt)
   have HLK:=lh9 (HLR.out k hlt)
   obtain⟨Lk,hLk⟩:∃L,G.getD k []=L:=⟨_,rfl⟩
   rw [hLk] at ha HSK HLK
   have HRL:Hid (((G.take k).map zgt).length=k):=by show _=_;rw [List.length_map,List.length_take];have:=HLG.out;omega
   have HA:=lh9 ha
   have HON:=lh9 hon
   have HBK:=lh9 hBk
   clear hLk ha hon hBk
   go_wp2_with fail
   (with_reducible refine(zot (HT.out _ (zab HB1.out HBK.out)) HA.out).mono ?_)
   rintro e w5 ⟨A5,c5,rfl,hv5,-,hb⟩
   obtain⟨t1,t2,-⟩:=zav w5 61 #[.slice A5 m c5]
   have hup:=zab hb t1
   have HON6:=lh9 (HON.out.below (zam zaf) hup)
   have HV6:=lh9 (zaz.keep hv5 t1)
   have HB6:=lh9 (zab HBK.out hup)
   have hown:=HON6.out.own
   rw [HRL.out] at hown
   have HOWN:=lh9 hown
   have HSL:=lh9 HON6.out.sl
   have HCELL:=lh9 (zck w5 (.slice A5 m c5) 61)
   have HBS:=lh9 HB6.out.size
   have HOB:=lh9 (λr (h:v.ownBlock=some r)=>HON6.out.own.lt r h)
   have HZS:Hid (∀u ∈(Value.slice none 0 0).cells.toList,zcr u):=by intro u hu;simp [Value.cells] at hu;exact⟨_,_,_,hu⟩
   have HNN:Hid (∀u ∈ [Value.slice A5 m c5],zcr u):=by intro u hu;simp at hu;exact⟨_,_,_,hu⟩
   have HONE:Hid (∀u ∈ [Value.slice A5 m c5],u.oneCell'=true):=by intro u hu;simp at hu;subst hu;rfl
   clear hb hv5 t1 t2 hup hown hc HON HBK HA
   go_wp2_with (at_builtin;go_loud (refine zcF _ rfl (.tmp 20) (.tmp 26) 26 rfl w1.heap.size 61 i9 (.slice none 0 0) 1 24 Tryz.underlying26 hi9 hz9 hz10 hz11 rfl (by decide) v k vs rfl HOWN.out ⟨w5.heap.size,0,none⟩ 1 1 [.slice A5 m c5] rfl rfl HCELL.out HONE.out (by unfold maxLen;omega) (by omega) HBS.out HSL.out HZS.out HNN.out ?_;intro v' w8 hown' hgrow hat hsl'))
   have hon8:=zbv.grow (n:=k+1) (L:=zgt Lk) (zam zaf) HON6.out HV6.out (by rw [zhs];exact HLK.out) hown' (by rw [HRL.out]) hgrow hsl'
   rw [<-HSK.out] at hon8
   have HON8:=lh9 hon8
   have HB8:=lh9 (HB6.out.grown hgrow HBS.out (λr hr=>(HOB.out r hr).1))
   clear hon8 hown' hgrow hat hsl' HON6 HV6 HOWN HSL HCELL HBS HOB HZS HNN HONE HB6
   go_wp2
   go_roundg (N - k)
   case measure=>omega
   case rel=>exact⟨k+1,_,_,by omega,by omega,by go_num,rfl,HON8.out,HB8.out⟩
  ·have hk:k=N:=by omega
   subst hk
   have hd1:decide ((k:Int)<(k:Int))=false:=by simp
   rw [List.take_of_length_le (by have:=HLG.out;omega)] at hon
   obtain⟨Q5,q5,rfl,hq1,hq2,hr5,-⟩:=hon.shape (n:=k) (by rw [List.length_map];exact HLG.out)
   have HR5:=lh9 hr5
   have HB5:=lh9 (zab HB1.out hBk)
   have HK5:=lh9 (zaa hBk HK1.out)
   clear hon hBk hr5 hq1 hq2
   go_wp2_with fail
   (with_reducible refine(zjz (HT.out _ HB5.out) HR5.out HD.out (by omega) (by omega) HZ.out (by decide)).mono ?_)
   rintro e w7 ⟨A7,c7,rfl,hm7,hf7,hb⟩
   obtain⟨t1,t2,-⟩:=zav w7 28 #[.slice A7 k c7,.int .i64 (m:Int)]
   have hk9:=zaa t1 (zaa hb HK5.out)
   have hl9:=HK5.out.lt
   have hm9:=hm7.keep t1
   have hb9:=zab HB5.out (zab hb t1)
   obtain⟨p0,p1⟩:=t2.c2
   obtain⟨sc0,sf0,sc1,sf1⟩:=st2 hk9 (.slice A7 k c7)
   obtain⟨r0,r1⟩:=(sn2 hk9 (.slice A7 k c7) (.int .i64 (m:Int))).c2
   have HG:=lh9 (gm2 hm9 (λad e=>Nat.lt_of_lt_of_le hl9 (hf7 ad e)) hk9 hb9 (by omega))
   unfold zcm at HG
   clear t1 t2 hk9 hm9 hb9 hm7 hf7 hb HR5 HB5 HK5
   go_wp2
   refine bodyPost_ret (v:=.agg #[.slice A7 k c7,.int .i64 (m:Int)]) (by simp [results,Tryz.results13,go_sem,r0,r1]) rfl ?_
   exact HG.out
