/- What this claim leans on. -/
import Derived.Test.YtdfdjfiognhbgaaGreatDoorDP8D
set_option linter.unusedVariables false
set_option linter.unusedSimpArgs false
namespace Go.Proofs.YtdfdjfiognhbgaaGreatDoor
open Go Go.RowKit Go.Proofs.Tryz
set_option maxHeartbeats 16000000
set_option maxRecDepth 100000
variable {L:List (Int×Int)}{c g m n:Nat}{w:World}{A:ze}
theorem rq {t:TypeId}{cs:Array Value}(h:vB w A n c L)(hk:zh w g t cs)(hs:∀u ∈ cs.toList,yp u):0<n->∀ad,A=some ad->ad.block≠g:=λhn a e0 hg=>by
 have hl:=h.len;have h0:0<L.length:=zb;obtain⟨ad,e,h1,h2,h3⟩:=h.row 0 _ (qX h0);obtain rfl:a=ad:=by rw [e0] at e;injection e
 have hb:(a.add (0*2)).block=g:=by rw [y8];exact hg
 generalize a.add (0*2)=q at hb h2;obtain⟨bk,off,pr⟩:=q;simp only at hb;subst hb;unfold zh at hk;cases pr with
 |none=>
   rw [show w.cell? ⟨bk,off,none⟩=cs[off]? from cell_of_row w bk off _ t (0,0) hk,<-QM] at h2;obtain⟨A9,n9,c9,e9⟩:=hs _ (QJ h2);cases e9
 |some q=>simp [World.cell?,hk] at h2
theorem lW:ur vB where
 len h:=h.len
 below h hb:=h.below hb
 offS h hk hs ho:=by
  have a:=rq h hk hs;have hl:=h.len;refine⟨h.len,h.fits,h.small,h.ints,λr q hr=>?_⟩;have hlt:=(List.getElem?_eq_some_iff.1 hr).1;obtain⟨ad,e,h1,h2,h3⟩:=h.row r q hr;exact⟨ad,e,qJ h1 ho.1,(ho.2 _ (by rw [y8];exact h1) (by rw [y8];exact a zb ad e)).trans h2,(ho.2 _ (by rw [y8];exact h1) (by rw [y8];exact a zb ad e)).trans h3⟩
 nil w:=⟨rfl,qY _,zg,(λq hq=>by cases hq),(λr q hr=>by simp at hr)⟩
def wX (m:Nat)(L:List (Int×Int)):List (Int×Int):=(List.range m).map λj=>L.getD j (0,0)
theorem oF (m:Nat)(L:List (Int×Int)):(wX m L).length=m:=by simp [wX]
theorem Zq {j:Nat}(L:List (Int×Int))(h:j<m):(wX m L)[j]?=some (L.getD j (0,0)):=by
 unfold wX;rw [QQ,xW h];rfl
theorem qo (hc:c<m)(hl:c<L.length):(wX m (L.take c)).set c (L.getD c (0,0))=wX m (L.take (c+1)):=by
 apply List.ext_getElem?;intro j;by_cases hj:j<m
 ·rw [Zq _ hj];by_cases h:c=j
  ·subst h;rw [XR (by rw [oF];exact hc)];congr 1;rw [qQ,qQ,XO,if_pos zb]
  ·rw [XL h,Zq _ hj];congr 1;rw [qQ,qQ,XO,XO];by_cases h2:j<c
   ·rw [if_pos h2,if_pos zb]
   ·rw [if_neg h2,if_neg zb]
 ·rw [QG (by rw [xB,oF];omega),QG (by rw [oF];omega)]
theorem Vu {m c:Nat}{L:List (Int×Int)}(h:c=m\/L.length<=c):wX m (L.take c)=wX m L:=by
 unfold wX;refine List.map_congr_left λj hj=>?_;have hj:=List.mem_range.1 hj;rcases h with h|h
 ·rw [qQ,qQ,XO,if_pos zb]
 ·rw [qU h]
theorem bZ {m:Nat}(h:∀q ∈ L,xz q.1/\xz q.2):∀q ∈ wX m L,xz q.1/\xz q.2:=λq hq=>by
 obtain⟨j,hj,rfl⟩:=List.mem_map.1 hq;rw [qQ];cases e:L[j]? with
 |none=>exact⟨⟨zg,zg⟩,⟨zg,zg⟩⟩
 |some q=>exact h q (QJ e)
structure uC (w:World)(g m:Nat)(L:List (Int×Int)):Prop where
 len:L.length=m
 blk:∃cs:Array Value,zh w g 124 cs/\cs.size=m*2
 num:∀j q,L[j]?=some q->w.cell? ⟨g,j*2,none⟩=some (.int .i64 q.1)/\w.cell? ⟨g,j*2+1,none⟩=some (.int .i64 q.2)
theorem uC.below {w':World}(h:uC w g m L)(hb:Below w.heap.size w w'):uC w' g m L:=by
 refine⟨h.len,?_,λj q hj=>?_⟩
 ·obtain⟨cs,hk,h1⟩:=h.blk;exact⟨cs,zf hb hk,h1⟩
 ·obtain⟨h1,h2⟩:=h.num j q hj;exact⟨zt hb h1,zt hb h2⟩
theorem uC.args (h:uC w g m L)(hi:∀q ∈ L,xz q.1/\xz q.2)(hm:m<=1048576):vB w (some ⟨g,0,none⟩) m m L:=
 ⟨h.len,qY _,hm,hi,λr q hr=>by
  obtain⟨cs,hk,_⟩:=h.blk;obtain⟨h1,h2⟩:=h.num r q hr;exact⟨_,rfl,hk.lt,by rw [vz];exact h1,by rw [vz];exact h2⟩⟩
theorem uC.ready (h:uC w g m L){i:Nat}(hi:i<m)(x:Value):∃a b:Value,w.cell? ⟨g,i*2,none⟩=some a/\w.frozen? ⟨g,i*2,none⟩=false/\(w.setCell ⟨g,i*2,none⟩ x).cell? ⟨g,i*2+1,none⟩=some b/\(w.setCell ⟨g,i*2,none⟩ x).frozen? ⟨g,i*2+1,none⟩=false:=by
 obtain⟨cs,hk,h2⟩:=h.blk;have c:=hk.set_ (i*2) x;have e0:i*2<cs.size:=zb;have e1:i*2+1<(cs.setIfInBounds (i*2) x).size:=by simp;omega
 exact⟨_,_,(hk.cell _).trans (QZ e0),hk.frozen _,(c.cell _).trans (QZ e1),c.frozen _⟩
theorem uC.set_ (h:uC w g m L){i:Nat}(hi:i<m)(x y:Int):uC ((w.setCell ⟨g,i*2,none⟩ (.int .i64 x)).setCell ⟨g,i*2+1,none⟩ (.int .i64 y)) g m (L.set i (x,y)):=by
 obtain⟨cs,hk,h2⟩:=h.blk;have hl:=h.len;have a:=(hk.set_ (i*2) (.int .i64 x)).set_ (i*2+1) (.int .i64 y);refine⟨by rw [xB];exact h.len,⟨_,a,by simp;exact h2⟩,λj q hj=>?_⟩;by_cases hij:i=j
 ·subst hij;rw [XR zb] at hj;injection hj with hj;subst hj;refine⟨?_,?_⟩
  ·rw [a.cell,qR zb,QI zb]
  ·rw [a.cell,QI (by simp;omega)]
 ·rw [XL hij] at hj;obtain⟨c1,c2⟩:=h.num j q hj;refine⟨?_,?_⟩
  ·rw [a.cell,qR zb,qR zb,<-hk.cell];exact c1
  ·rw [a.cell,qR zb,qR zb,<-hk.cell];exact c2
def fN:Array Value:=#[.int .i64 0,.int .i64 0]
theorem uC.made (w:World)(n:Nat):uC (w.alloc (.cells (madeCells fN (n*2)) 124)) w.heap.size n (wX n ([]:List (Int×Int))):=by
 have hk:=zh.new w 124 (madeCells fN (n*2));refine⟨oF _ _,⟨_,hk,size_madeCells _ _⟩,λi x hi=>?_⟩;have a:i<n:=by
  have:=(List.getElem?_eq_some_iff.1 hi).1;rwa [oF] at this
 rw [Zq _ a] at hi;injection hi with hi;subst hi;have e0:(i*2)%2=0:=zb;have e1:(i*2+1)%2=1:=zb;refine⟨?_,?_⟩
 ·rw [hk.cell,lU _ _ _ zb,show fN.size=2 from rfl,e0];rfl
 ·rw [hk.cell,lU _ _ _ zb,show fN.size=2 from rfl,e1];rfl
theorem nC:(prog.info? 124).map (λi=>(i.zero,i.size,i.bytes))=some (some (.agg #[.int .i64 0,.int .i64 0]),2,16):=zP
theorem rF:(prog.info? 78).map (λi=>(i.zero,i.size,i.bytes))=some (some (.slice none 0 0),1,24):=zP
theorem Rg (n:Nat)(hn:n<=1048576):∃Z:Array Value,∀W:World,(Instr.makeSlice 78 (.int .i64 (n:Int)) (.int .i64 (n:Int))).run prog W=.ok (.slice (some ⟨W.heap.size,0,none⟩) n n) (W.alloc (.cells Z 124))/\uC (W.alloc (.cells Z 124)) W.heap.size n (wX n ([]:List (Int×Int))):=by
 obtain⟨i0,a,c,d,g⟩:=info_parts nC;refine⟨madeCells fN (n*2),λW=>⟨?_,uC.made W n⟩⟩;have h:=tH (P:=prog) _ _ i0 _ underlying78 a c .i64 .i64 n n (qY _) (by rw [g];omega) zb W;rw [d] at h;exact h
def vt (m:Nat)(R:so)(k:Nat):List (List (Int×Int)):=(List.range k).map λi=>wX m (R i).2.2.2
theorem ez (m:Nat)(R:so)(k:Nat):(vt m R k).length=k:=by simp [vt]
theorem S9 (m:Nat)(R:so)(k:Nat):vt m R (k+1)=vt m R k++[wX m (R k).2.2.2]:=by simp [vt,yA]
def X9 (w:World)(n m:Nat)(Ls:List (List (Int×Int)))(e:Ending)(w':World):Prop:=∃(Q:ze) (q:Nat),e=.returned (.tuple #[.slice Q n q,.int .i64 (m:Int)])/\y5 vB w' Q n Ls/\Below w.heap.size w w'
theorem Xo {z:Nat}{R:so}(hz:z<=255)(h:uf w A n c R):
  Calls prog 29 #[.agg #[.int .u8 (z:Int),.slice A n c]] w (X9 w (min n 6) (z%7) (vt (z%7) R (min n 6))):=by
 obtain⟨i9,ba,bc,ao,ap⟩:=info_parts rF;have hn0:n<=1048576:=qL h.fits h.small;obtain⟨m,hm⟩:∃m,z%7=m:=⟨_,rfl⟩;have hm6:m<=6:=zb;have bd:(z:Int)%7=(m:Int):=zb;have bn:(z:Int).tmod 7=(m:Int):=by rw [xL zb];exact bd
 rw [hm];obtain⟨N,hN⟩:∃N,min n 6=N:=⟨_,rfl⟩;rw [hN];have hNn:N<=n:=zb;have hN6:N<=6:=zb;have X:N=n\/N=6:=zb;have HR:=zj w (λw' hb k (hk:k<n)=>by
  obtain⟨ad,e,h1,h2,h3⟩:=h.row k hk;exact(⟨ad,e,zt hb h2,h3.below hb⟩:∃ad,A=some ad/\w'.cell? (ad.add k)=some (.slice (R k).1 (R k).2.1 (R k).2.2.1)/\vB w' (R k).1 (R k).2.1 (R k).2.2.1 (R k).2.2.2))
 obtain⟨a5,ax,bz⟩:=zw w 24 #[.int .u8 (z:Int),.slice A n c];obtain⟨g0,g1⟩:=ax.c2;obtain⟨Z,hZ⟩:=Rg m zb;have hmk:=λW=>(hZ W).1;have av:=za (λW=>(hZ W).2);have hB:=a5;have hK:=ax;clear a5 ax bz h hZ hN hz;unfold X9;have i0:(0:Int)<=(m:Int):=zb;go_enter func29,ntmps29;go_upto_region 3 with fail;clear hm bd bn g0 g1;go_wp2_with fail;generalize w.alloc (.cells #[.int .u8 (z:Int),.slice A n c] 24)=W1 at*
 go_loopg [5,6] (N+1) (λg sl ix wr=>∃(k:Nat) (v:Value) (vs:List Value),k<=N/\N<g+k/\ix=.int .i64 k/\v=sl/\yk vB wr (w.heap.size+1) 78 v (vt m R k) vs/\Below w.heap.size w wr/\zh wr w.heap.size 24 #[.int .u8 (z:Int),.slice A n c])
 case atStart=>exact⟨0,_,_,qN _,zb,rfl,rfl,yk.nil _ _ _,hB,hK⟩
 case round=>
  clear hB hK;obtain⟨k,v,vs,hkN,hg,rfl,rfl,Y,hB,hK⟩:=hrel;obtain⟨wo,bm⟩:∃wo,wo=wr:=⟨_,rfl⟩;subst bm;obtain⟨g0,g1⟩:=hK.c2;by_cases hlt:k<N
  ·have a0:k<n:=zb;have az:decide ((k:Int)<(n:Int))=true:=decide_eq_true zb;have ai:decide (k<n)=true:=decide_eq_true a0;have bi:decide ((k:Int)<6)=true:=decide_eq_true zb;have a6:decide (k<6)=true:=decide_eq_true zb;have i2:(0:Int)<=(k:Int):=zb;have i3:(k:Int)<(n:Int):=zb;have V:zd ((vt m R k).length=k):=ez _ _ _;have am:zd (vt m R (k+1)=vt m R k++[wX m (R k).2.2.2]):=S9 _ _ _;have an:=za (λw' hb=>HR.o w' hb k a0);obtain⟨q,hq⟩:∃q,R k=q:=⟨_,rfl⟩;rw [hq] at am an;obtain⟨Ak,nk,ck,Lk⟩:=q;dsimp only at am an;clear hq;obtain⟨ad,rfl,bh,M⟩:=an.o wo hB;have a2:=za M.ints;have au:=za M.len;have hnk:nk<=1048576:=qL M.fits M.small;have HB:=za hB;have a4:=za Y;have HK:=za hK;clear Y hB hK M bh;go_wp2_with fail;have s:=av.o wo;have o:Below wo.heap.size wo (wo.alloc (.cells Z 124)):=(qZ _ wo).alloc (qY _) _;have s:uC (wo.alloc (.cells Z 124)) wo.heap.size m (wX m (Lk.take 0)):=s;obtain⟨gr,a9⟩:∃g,wo.heap.size=g:=⟨_,rfl⟩;have bb:wo.heap.size<=gr:=zb;rw [a9] at s⊢;generalize wo.alloc (.cells Z 124)=W2 at*;clear a9 g0 g1
   go_loopg [8] (m+1) (λg jx wr=>∃(j:Nat),j<=m/\j<=nk/\m<g+j/\jx=.int .i64 j/\uC wr gr m (wX m (Lk.take j))/\Below wo.heap.size wo wr)
   case atStart=>exact⟨0,qN _,qN _,zb,rfl,s,o⟩
   case round=>
    clear s o;obtain⟨j,hjm,hjn,hg2,rfl,s,o⟩:=hrel;obtain⟨p0,p1⟩:=(zf o HK.o).c2;by_cases hjl:j<m
    ·have bj:decide ((j:Int)<(m:Int))=true:=decide_eq_true zb;have a7:decide (j<m)=true:=decide_eq_true hjl;obtain⟨bg,e2,hc,M⟩:=an.o wr (zc HB.o o);obtain rfl:ad=bg:=by injection e2
     clear e2;by_cases hjk:j<nk
     ·have bk:decide ((j:Int)<(nk:Int))=true:=decide_eq_true zb;have a8:decide (j<nk)=true:=decide_eq_true hjk;obtain⟨ae,rfl,hae,bl,a1⟩:=M.row j _ (vY (d:=(0,0)) (by have:=au.o;omega));have a1:=fE a1;have U:(wX m (Lk.take j)).set j ((Lk.getD j (0,0)).1,(Lk.getD j (0,0)).2)=wX m (Lk.take (j+1)):=qo hjl (by have:=au.o;omega);obtain⟨x,hx⟩:∃x,(Lk.getD j (0,0)).1=x:=⟨_,rfl⟩;obtain⟨y,hy⟩:∃y,(Lk.getD j (0,0)).2=y:=⟨_,rfl⟩;rw [hx] at bl U;rw [hy] at a1 U;have i4:(0:Int)<=(j:Int):=zb;have i5:(j:Int)<(m:Int):=zb;have i6:(j:Int)<(nk:Int):=zb;have aj:=s.set_ hjl x y;rw [U] at aj;obtain⟨q0,q1,sc0,sf0,sc1,sf1⟩:=s.ready hjl (.int .i64 x);have a3:=za aj;have be:=za (zz (p:=⟨gr,j*2+1,none⟩) (.int .i64 y) bb (zz (p:=⟨gr,j*2,none⟩) (.int .i64 x) bb o));clear s aj o M U hx hy;go_wp2;go_roundg (m - j)
      case measure=>omega
      case rel=>exact⟨j+1,zb,zb,zb,by go_num,a3.o,be.o⟩
     ·have bk:decide ((j:Int)<(nk:Int))=false:=decide_eq_false zb;have a8:decide (j<nk)=false:=decide_eq_false hjk;have i5:(k:Int)<(n:Int):=zb;have D:j=m\/Lk.length<=j:=Or.inr (by have:=au.o;omega);have ak:=Vu (m:=m) (L:=Lk) (c:=j) D;have aa:=za ((ak▸s).args (bZ a2.o) zb);have t:=za (zc HB.o o);have I:=za (a4.o.below lW o);obtain⟨t1,t2,-⟩:=zw wr 78 #[.slice (some ⟨gr,0,none⟩) m m];have S:=za (zc t.o t1);have i:=za (I.o.below lW t1);have H:=za (aa.o.below t1);have F:=i.o.own;rw [V.o] at F;have K:=za F;have ag:=za i.o.sl;have B:=za (wT wr (.slice (some ⟨gr,0,none⟩) m m) 78);have ab:=za S.o.size;have T:=za (λr (h:v.ownBlock=some r)=>i.o.own.lt r h);have ah:zd (∀u ∈(Value.slice none 0 0).cells.toList,yp u):=by intro u hu;simp [Value.cells] at hu;exact⟨_,_,_,hu⟩
      have ac:zd (∀u ∈ [Value.slice (some ⟨gr,0,none⟩) m m],yp u):=by intro u hu;simp at hu;exact⟨_,_,_,hu⟩
      have J:zd (∀u ∈ [Value.slice (some ⟨gr,0,none⟩) m m],u.oneCell'=true):=by intro u hu;simp at hu;subst hu;rfl
      have C:=za (zf t1 (zf o HK.o));have bf:zd (Below w.heap.size w wr):=t.o;obtain⟨p0,p1⟩:=(zf o HK.o).c2;clear o s t1 t2 F ak D aa t I;go_wp2_with (at_builtin;go_loud (refine gP _ rfl (.tmp 52) (.tmp 54) 22 rfl (w.heap.size+1) 78 i9 (.slice none 0 0) 1 24 underlying22 ba bc ao ap rfl zg v k vs rfl K.o ⟨wr.heap.size,0,none⟩ 1 1 [.slice (some ⟨gr,0,none⟩) m m] rfl rfl B.o J.o (by unfold maxLen;omega) zb (C.o.lt) ag.o ah.o ac.o ?_;intro v' w8 G a ay P));have E:=yk.grow (n:=k+1) (L:=wX m Lk) lW i.o H.o (oF _ _) G (by rw [V.o]) a P;rw [<-am.o] at E;have af:=za E;have aq:=za (S.o.grown a ab.o (λr hr=>by have:=(T.o r hr).1;omega));have ar:zd (zh w8 w.heap.size 24 #[.int .u8 (z:Int),.slice (some ad) n c]):=tI C.o a (λe=>by have:=(T.o _ e).1;omega);clear E G a ay P i H K ag B ab T ah ac J S C p0 p1;go_wp2;go_roundg (N - k)
      case measure=>omega
      case rel=>exact⟨k+1,_,_,zb,zb,by go_num,rfl,af.o,aq.o,ar.o⟩
    ·have bj:decide ((j:Int)<(m:Int))=false:=decide_eq_false zb;have a7:decide (j<m)=false:=decide_eq_false hjl;have D:j=m\/Lk.length<=j:=Or.inl zb;have ak:=Vu (m:=m) (L:=Lk) (c:=j) D;have aa:=za ((ak▸s).args (bZ a2.o) zb);have t:=za (zc HB.o o);have I:=za (a4.o.below lW o);obtain⟨t1,t2,-⟩:=zw wr 78 #[.slice (some ⟨gr,0,none⟩) m m];have S:=za (zc t.o t1);have i:=za (I.o.below lW t1);have H:=za (aa.o.below t1);have F:=i.o.own;rw [V.o] at F;have K:=za F;have ag:=za i.o.sl;have B:=za (wT wr (.slice (some ⟨gr,0,none⟩) m m) 78);have ab:=za S.o.size;have T:=za (λr (h:v.ownBlock=some r)=>i.o.own.lt r h);have ah:zd (∀u ∈(Value.slice none 0 0).cells.toList,yp u):=by intro u hu;simp [Value.cells] at hu;exact⟨_,_,_,hu⟩
     have ac:zd (∀u ∈ [Value.slice (some ⟨gr,0,none⟩) m m],yp u):=by intro u hu;simp at hu;exact⟨_,_,_,hu⟩
     have J:zd (∀u ∈ [Value.slice (some ⟨gr,0,none⟩) m m],u.oneCell'=true):=by intro u hu;simp at hu;subst hu;rfl
     have C:=za (zf t1 (zf o HK.o));have bf:zd (Below w.heap.size w wr):=t.o;obtain⟨p0,p1⟩:=(zf o HK.o).c2;clear o s t1 t2 F ak D aa t I;go_wp2_with (at_builtin;go_loud (refine gP _ rfl (.tmp 52) (.tmp 54) 22 rfl (w.heap.size+1) 78 i9 (.slice none 0 0) 1 24 underlying22 ba bc ao ap rfl zg v k vs rfl K.o ⟨wr.heap.size,0,none⟩ 1 1 [.slice (some ⟨gr,0,none⟩) m m] rfl rfl B.o J.o (by unfold maxLen;omega) zb (C.o.lt) ag.o ah.o ac.o ?_;intro v' w8 G a ay P));have E:=yk.grow (n:=k+1) (L:=wX m Lk) lW i.o H.o (oF _ _) G (by rw [V.o]) a P;rw [<-am.o] at E;have af:=za E;have aq:=za (S.o.grown a ab.o (λr hr=>by have:=(T.o r hr).1;omega));have ar:zd (zh w8 w.heap.size 24 #[.int .u8 (z:Int),.slice (some ad) n c]):=tI C.o a (λe=>by have:=(T.o _ e).1;omega);clear E G a ay P i H K ag B ab T ah ac J S C p0 p1;go_wp2;go_roundg (N - k)
     case measure=>omega
     case rel=>exact⟨k+1,_,_,zb,zb,by go_num,rfl,af.o,aq.o,ar.o⟩
  ·have O:k=N:=zb;have V:zd ((vt m R k).length=N):=by rw [O];exact ez _ _ _
   obtain⟨Q,q,rfl,hq1,hq2,al,-⟩:=Y.shape V.o;rw [O] at al;have aw:=za al;have t:=za hB;rcases X with X|X
   ·have az:decide ((k:Int)<(n:Int))=false:=decide_eq_false zb;have ai:decide (k<n)=false:=decide_eq_false zb;clear Y hB hK al O hlt X;go_wp2
    go_ret2
    exact⟨Q,q,rfl,aw.o,t.o⟩
   ·have bi:decide ((k:Int)<6)=false:=decide_eq_false zb;have a6:decide (k<6)=false:=decide_eq_false zb;by_cases a0:k<n
    ·have az:decide ((k:Int)<(n:Int))=true:=decide_eq_true zb;have ai:decide (k<n)=true:=decide_eq_true zb;clear Y hB hK al O hlt X;go_wp2
     go_ret2
     exact⟨Q,q,rfl,aw.o,t.o⟩
    ·have az:decide ((k:Int)<(n:Int))=false:=decide_eq_false zb;have ai:decide (k<n)=false:=decide_eq_false zb;clear Y hB hK al O hlt X;go_wp2
     go_ret2
     exact⟨Q,q,rfl,aw.o,t.o⟩
def oN (m:Nat)(R:so)(k:Nat):List (List Rat):=(vt m R k).map xx
theorem cZ (m:Nat)(R:so)(k:Nat):zM (oN m R k) k m:=⟨by simp [oN,vt],λL hL=>by
 obtain⟨q,hq,rfl⟩:=List.mem_map.1 hL;obtain⟨i,hi,rfl⟩:=List.mem_map.1 hq;rw [mV,oF]⟩
theorem VC {W:World}{m k:Nat}{R:so}(h:uf W A n c R)(hk:k<=n):zV 1 (oN m R k):=λL hL x hx=>by
 obtain⟨q,hq,rfl⟩:=List.mem_map.1 hL;obtain⟨i,hi,rfl⟩:=List.mem_map.1 hq;obtain⟨p,hp,rfl⟩:=List.mem_map.1 hx;obtain⟨ad,e,_,_,h3⟩:=h.row i (by have:=List.mem_range.1 hi;omega);obtain⟨⟨h4,h5⟩,h6,h7⟩:=bZ (m:=m) h3.ints p hp;exact jg h4 h5 h6 h7
theorem Rf {z:Nat}{R:so}(hT:zu w)(hz:z<=255)(h:uf w A n c R):
  Calls prog 6 #[.agg #[.int .u8 (z:Int),.slice A n c]] w (mX w (min n 6) (z%7) (oN (z%7) R (min n 6))):=by
 obtain⟨i9,a5,a9,ax,ay⟩:=info_parts jK;have HZ:=za (VC (m:=z%7) h (Nat.min_le_left n 6));have HD:=za (cZ (z%7) R (min n 6));have HI:zd (∀k,k<min n 6->xz 0/\(vt (z%7) R (min n 6)).getD k []=wX (z%7) (R k).2.2.2):=λk hk=>⟨⟨zg,zg⟩,by
  unfold vt;rw [qQ,QQ,xW hk];rfl⟩
 have a:=za (λW (hb:Below w.heap.size w W)=>Xo hz (show uf W A n c R from⟨h.fits,h.small,λr hr=>by
  obtain⟨ad,e,h1,h2,h3⟩:=h.row r hr;exact⟨ad,e,qJ h1 hb.size,zt hb h2,h3.below hb⟩⟩))
 obtain⟨m,hm⟩:∃m,z%7=m:=⟨_,rfl⟩;obtain⟨N,hN⟩:∃N,min n 6=N:=⟨_,rfl⟩;have hm6:m<=6:=zb;have hN6:N<=6:=zb;rw [hm,hN] at HZ HD HI a⊢;have HT:=zj w (λw' hb=>hT.on hb);have t:zd ((vt m R N).length=N):=ez _ _ _;obtain⟨G,hG⟩:∃G,vt m R N=G:=⟨_,rfl⟩;have an:oN m R N=G.map xx:=by unfold oN;rw [hG]
 rw [hG] at HI a t;rw [an] at HZ HD⊢;have X:zd (∀k,k<N->(G.getD k []).length=m):=λk hk=>by rw [(HI.o k hk).2,oF]
 have a2:zd (∀k,k<N->(G.take (k+1)).map xx=(G.take k).map xx++[xx (G.getD k [])]):=λk hk=>by
  have hl:=t.o;rw [qE zb,YX,qQ,qX zb];rfl
 obtain⟨aj,ak,al,bz⟩:=zX w 24 28 #[.int .u8 (z:Int),.slice A n c] #[.slice none 0 0,.int .i64 0];obtain⟨g0,g1⟩:=ak.c2;have HB:=za aj;have HK:=za al;clear h hT hz hm hN hG an aj ak al bz HI;unfold mX;go_enter func6,ntmps6;go_wp2_with fail;(with_reducible refine(a.o _ HB.o).mono ?_);rintro e w1 ⟨Q,q,rfl,aw,hb⟩;have U:=za (zc HB.o hb);have a0:=za (zf hb HK.o);have a1:=za aw;have am:=qZ w1.heap.size w1;clear hb aw HB HK g0 g1 a;go_wp2_with fail
 go_loopg [5,6] (N+1) (λg sl ix wr=>∃(k:Nat) (v:Value) (vs:List Value),k<=N/\N<g+k/\ix=.int .i64 k/\v=sl/\yk (zY zo) wr w1.heap.size 64 v ((G.take k).map xx) vs/\Below w1.heap.size w1 wr)
 case atStart=>exact⟨0,_,_,qN _,zb,rfl,rfl,yk.nil _ _ _,am⟩
 case round=>
  clear am;obtain⟨k,v,vs,hkN,hg,rfl,rfl,y,o⟩:=hrel;by_cases hlt:k<N
  ·obtain⟨ad,B,d,rfl,-,hc,ha⟩:=a1.o.get lW o hlt (X.o k hlt);have a4:decide ((k:Int)<(N:Int))=true:=decide_eq_true zb;have i1:(0:Int)<=(k:Int):=zb;have i2:(k:Int)<(N:Int):=zb;have af:=za (a2.o k hlt);have V:=za (X.o k hlt);obtain⟨Lk,ao⟩:∃L,G.getD k []=L:=⟨_,rfl⟩;rw [ao] at ha af V;have ae:zd (((G.take k).map xx).length=k):=by show _=_;rw [xV,qB];have:=t.o;omega
   have HA:=za ha;have aa:=za y;have O:=za o;clear ao ha y o;go_wp2_with fail;(with_reducible refine(Re (HT.o _ (zc U.o O.o)) HA.o).mono ?_);rintro e w5 ⟨A5,c5,rfl,hv5,-,hb⟩;obtain⟨t1,t2,-⟩:=zw w5 64 #[.slice A5 m c5];have T:=zc hb t1;have i:=za (aa.o.below (zN zS) T);have ah:=za (zU.keep hv5 t1);have M:=za (zc O.o T);have D:=i.o.own;rw [ae.o] at D;have I:=za D;have ag:=za i.o.sl;have s:=za (wT w5 (.slice A5 m c5) 64);have P:=za M.o.size;have Z:=za (λr (h:v.ownBlock=some r)=>i.o.own.lt r h);have ai:zd (∀u ∈(Value.slice none 0 0).cells.toList,yp u):=by intro u hu;simp [Value.cells] at hu;exact⟨_,_,_,hu⟩
   have Y:zd (∀u ∈ [Value.slice A5 m c5],yp u):=by intro u hu;simp at hu;exact⟨_,_,_,hu⟩
   have H:zd (∀u ∈ [Value.slice A5 m c5],u.oneCell'=true):=by intro u hu;simp at hu;subst hu;rfl
   clear hb hv5 t1 t2 T D hc aa O HA;go_wp2_with (at_builtin;go_loud (refine gP _ rfl (.tmp 20) (.tmp 26) 26 rfl w1.heap.size 64 i9 (.slice none 0 0) 1 24 underlying26 a5 a9 ax ay rfl zg v k vs rfl I.o ⟨w5.heap.size,0,none⟩ 1 1 [.slice A5 m c5] rfl rfl s.o H.o (by unfold maxLen;omega) zb P.o ag.o ai.o Y.o ?_;intro v' w8 E j a3 J));have C:=yk.grow (n:=k+1) (L:=xx Lk) (zN zS) i.o ah.o (by rw [mV];exact V.o) E (by rw [ae.o]) j J;rw [<-af.o] at C;have ab:=za C;have az:=za (M.o.grown j P.o (λr hr=>(Z.o r hr).1));clear C E j a3 J i ah I ag s P Z ai Y H M;go_wp2;go_roundg (N - k)
   case measure=>omega
   case rel=>exact⟨k+1,_,_,zb,zb,by go_num,rfl,ab.o,az.o⟩
  ·have hk:k=N:=zb;subst hk;have a4:decide ((k:Int)<(k:Int))=false:=zE;rw [qU (by have:=t.o;omega)] at y;obtain⟨Q5,q5,rfl,a7,a8,av,-⟩:=y.shape (n:=k) (by rw [xV];exact t.o);have ac:=za av;have K:=za (zc U.o o);have S:=za (zf o a0.o);clear y o av a7 a8;go_wp2_with fail;(with_reducible refine(fG (HT.o _ K.o) ac.o HD.o zb zb HZ.o zg).mono ?_);rintro e w7 ⟨A7,c7,rfl,ar,aq,hb⟩;obtain⟨t1,t2,-⟩:=zw w7 28 #[.slice A7 k c7,.int .i64 (m:Int)];have F:=zf t1 (zf hb S.o);have a6:=S.o.lt;have au:=ar.keep t1;have ap:=zc K.o (zc hb t1);obtain⟨p0,p1⟩:=t2.c2;obtain⟨sc0,sf0,sc1,sf1⟩:=wS F (.slice A7 k c7);obtain⟨r0,r1⟩:=(wR F (.slice A7 k c7) (.int .i64 (m:Int))).c2;have HG:=za (ZZ au (λad e=>qJ a6 (aq ad e)) F ap zb);unfold mX at HG;clear t1 t2 F au ap ar aq hb ac K S;go_wp2;refine bodyPost_ret (v:=.agg #[.slice A7 k c7,.int .i64 (m:Int)]) (by simp [results,results6,go_sem,r0,r1]) rfl ?_;exact HG.o
