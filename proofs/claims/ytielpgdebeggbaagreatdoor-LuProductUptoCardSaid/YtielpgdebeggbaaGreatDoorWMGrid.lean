/- What this claim leans on. -/
import Derived.Test.YtielpgdebeggbaaGreatDoorWMClos
set_option linter.unusedVariables false
set_option linter.unusedSimpArgs false
namespace Go.Proofs.YtielpgdebeggbaaGreatDoor
open Go Go.RowKit Go.Proofs.Tryz
set_option maxHeartbeats 16000000
set_option maxRecDepth 100000
variable {L:List (Int×Int)}{c g m n:Nat}{w:World}{A:ze}
theorem rR {t:TypeId}{cs:Array Value}(h:vn w A n c L)(hk:zh w g t cs)(hs:∀u ∈ cs.toList,xp u):0<n->∀ad,A=some ad->ad.block≠g:=λhn a e0 hg=>by
 have hl:=h.len;have h0:0<L.length:=zb;obtain⟨ad,e,h1,h2,h3⟩:=h.row 0 _ (qY h0);obtain rfl:a=ad:=by rw [e0] at e;injection e
 have hb:(a.add (0*2)).block=g:=by rw [yk];exact hg
 generalize a.add (0*2)=q at hb h2;obtain⟨bk,off,pr⟩:=q;simp only at hb;subst hb;unfold zh at hk;cases pr with
 |none=>
   rw [show w.cell? ⟨bk,off,none⟩=cs[off]? from cell_of_row w bk off _ t (0,0) hk,<-QS] at h2;obtain⟨A9,n9,c9,e9⟩:=hs _ (QJ h2);cases e9
 |some q=>simp [World.cell?,hk] at h2
theorem jc:uZ vn where
 len h:=h.len
 below h hb:=h.below hb
 offS h hk hs ho:=by
  have a:=rR h hk hs;have hl:=h.len;refine⟨h.len,h.fits,h.small,h.ints,λr q hr=>?_⟩;have hlt:=(List.getElem?_eq_some_iff.1 hr).1;obtain⟨ad,e,h1,h2,h3⟩:=h.row r q hr;exact⟨ad,e,qJ h1 ho.1,(ho.2 _ (by rw [yk];exact h1) (by rw [yk];exact a zb ad e)).trans h2,(ho.2 _ (by rw [yk];exact h1) (by rw [yk];exact a zb ad e)).trans h3⟩
 nil w:=⟨rfl,qX _,zf,(λq hq=>by cases hq),(λr q hr=>by simp at hr)⟩
def vd (m:Nat)(L:List (Int×Int)):List (Int×Int):=(List.range m).map λj=>L.getD j (0,0)
theorem mS (m:Nat)(L:List (Int×Int)):(vd m L).length=m:=by simp [vd]
theorem ZI {j:Nat}(L:List (Int×Int))(h:j<m):(vd m L)[j]?=some (L.getD j (0,0)):=by
 unfold vd;rw [qN,xL h];rfl
theorem pg (hc:c<m)(hl:c<L.length):(vd m (L.take c)).set c (L.getD c (0,0))=vd m (L.take (c+1)):=by
 apply List.ext_getElem?;intro j;by_cases hj:j<m
 ·rw [ZI _ hj];by_cases h:c=j
  ·subst h;rw [XY (by rw [mS];exact hc)];congr 1;rw [qQ,qQ,xD,if_pos zb]
  ·rw [XZ h,ZI _ hj];congr 1;rw [qQ,qQ,xD,xD];by_cases h2:j<c
   ·rw [if_pos h2,if_pos zb]
   ·rw [if_neg h2,if_neg zb]
 ·rw [QL (by rw [QX,mS];omega),QL (by rw [mS];omega)]
theorem WU {m c:Nat}{L:List (Int×Int)}(h:c=m\/L.length<=c):vd m (L.take c)=vd m L:=by
 unfold vd;refine List.map_congr_left λj hj=>?_;have hj:=List.mem_range.1 hj;rcases h with h|h
 ·rw [qQ,qQ,xD,if_pos zb]
 ·rw [qV h]
theorem aU {m:Nat}(h:∀q ∈ L,wO q.1/\wO q.2):∀q ∈ vd m L,wO q.1/\wO q.2:=λq hq=>by
 obtain⟨j,hj,rfl⟩:=List.mem_map.1 hq;rw [qQ];cases e:L[j]? with
 |none=>exact⟨⟨zf,zf⟩,⟨zf,zf⟩⟩
 |some q=>exact h q (QJ e)
structure uN (w:World)(g m:Nat)(L:List (Int×Int)):Prop where
 len:L.length=m
 blk:∃cs:Array Value,zh w g 98 cs/\cs.size=m*2
 num:∀j q,L[j]?=some q->w.cell? ⟨g,j*2,none⟩=some (.int .i64 q.1)/\w.cell? ⟨g,j*2+1,none⟩=some (.int .i64 q.2)
theorem uN.below {w':World}(h:uN w g m L)(hb:Below w.heap.size w w'):uN w' g m L:=by
 refine⟨h.len,?_,λj q hj=>?_⟩
 ·obtain⟨cs,hk,h1⟩:=h.blk;exact⟨cs,zg hb hk,h1⟩
 ·obtain⟨h1,h2⟩:=h.num j q hj;exact⟨zv hb h1,zv hb h2⟩
theorem uN.args (h:uN w g m L)(hi:∀q ∈ L,wO q.1/\wO q.2)(hm:m<=1048576):vn w (some ⟨g,0,none⟩) m m L:=
 ⟨h.len,qX _,hm,hi,λr q hr=>by
  obtain⟨cs,hk,_⟩:=h.blk;obtain⟨h1,h2⟩:=h.num r q hr;exact⟨_,rfl,hk.lt,by rw [xk];exact h1,by rw [xk];exact h2⟩⟩
theorem uN.ready (h:uN w g m L){i:Nat}(hi:i<m)(x:Value):∃a b:Value,w.cell? ⟨g,i*2,none⟩=some a/\w.frozen? ⟨g,i*2,none⟩=false/\(w.setCell ⟨g,i*2,none⟩ x).cell? ⟨g,i*2+1,none⟩=some b/\(w.setCell ⟨g,i*2,none⟩ x).frozen? ⟨g,i*2+1,none⟩=false:=by
 obtain⟨cs,hk,h2⟩:=h.blk;have c:=hk.set_ (i*2) x;have e0:i*2<cs.size:=zb;have e1:i*2+1<(cs.setIfInBounds (i*2) x).size:=by simp;omega
 exact⟨_,_,(hk.cell _).trans (QY e0),hk.frozen _,(c.cell _).trans (QY e1),c.frozen _⟩
theorem uN.set_ (h:uN w g m L){i:Nat}(hi:i<m)(x y:Int):uN ((w.setCell ⟨g,i*2,none⟩ (.int .i64 x)).setCell ⟨g,i*2+1,none⟩ (.int .i64 y)) g m (L.set i (x,y)):=by
 obtain⟨cs,hk,h2⟩:=h.blk;have hl:=h.len;have a:=(hk.set_ (i*2) (.int .i64 x)).set_ (i*2+1) (.int .i64 y);refine⟨by rw [QX];exact h.len,⟨_,a,by simp;exact h2⟩,λj q hj=>?_⟩;by_cases hij:i=j
 ·subst hij;rw [XY zb] at hj;injection hj with hj;subst hj;refine⟨?_,?_⟩
  ·rw [a.cell,qK zb,qM zb]
  ·rw [a.cell,qM (by simp;omega)]
 ·rw [XZ hij] at hj;obtain⟨c1,c2⟩:=h.num j q hj;refine⟨?_,?_⟩
  ·rw [a.cell,qK zb,qK zb,<-hk.cell];exact c1
  ·rw [a.cell,qK zb,qK zb,<-hk.cell];exact c2
def fN:Array Value:=#[.int .i64 0,.int .i64 0]
theorem uN.made (w:World)(n:Nat):uN (w.alloc (.cells (madeCells fN (n*2)) 98)) w.heap.size n (vd n ([]:List (Int×Int))):=by
 have hk:=zh.new w 98 (madeCells fN (n*2));refine⟨mS _ _,⟨_,hk,size_madeCells _ _⟩,λi x hi=>?_⟩;have a:i<n:=by
  have:=(List.getElem?_eq_some_iff.1 hi).1;rwa [mS] at this
 rw [ZI _ a] at hi;injection hi with hi;subst hi;have e0:(i*2)%2=0:=zb;have e1:(i*2+1)%2=1:=zb;refine⟨?_,?_⟩
 ·rw [hk.cell,mO _ _ _ zb,show fN.size=2 from rfl,e0];rfl
 ·rw [hk.cell,mO _ _ _ zb,show fN.size=2 from rfl,e1];rfl
theorem nI:(prog.info? 98).map (λi=>(i.zero,i.size,i.bytes))=some (some (.agg #[.int .i64 0,.int .i64 0]),2,16):=ye
theorem qb:(prog.info? 59).map (λi=>(i.zero,i.size,i.bytes))=some (some (.slice none 0 0),1,24):=ye
theorem Rd (n:Nat)(hn:n<=1048576):∃Z:Array Value,∀W:World,(Instr.makeSlice 59 (.int .i64 (n:Int)) (.int .i64 (n:Int))).run prog W=.ok (.slice (some ⟨W.heap.size,0,none⟩) n n) (W.alloc (.cells Z 98))/\uN (W.alloc (.cells Z 98)) W.heap.size n (vd n ([]:List (Int×Int))):=by
 obtain⟨i0,a,c,d,g⟩:=info_parts nI;refine⟨madeCells fN (n*2),λW=>⟨?_,uN.made W n⟩⟩;have h:=sx (P:=prog) _ _ i0 _ underlying59 a c .i64 .i64 n n (qX _) (by rw [g];omega) zb W;rw [d] at h;exact h
def ul (m:Nat)(R:sK)(k:Nat):List (List (Int×Int)):=(List.range k).map λi=>vd m (R i).2.2.2
theorem aG (m:Nat)(R:sK)(k:Nat):(ul m R k).length=k:=by simp [ul]
theorem SE (m:Nat)(R:sK)(k:Nat):ul m R (k+1)=ul m R k++[vd m (R k).2.2.2]:=by simp [ul,yL]
def We (w:World)(n m:Nat)(Ls:List (List (Int×Int)))(e:Ending)(w':World):Prop:=∃(Q:ze) (q:Nat),e=.returned (.tuple #[.slice Q n q,.int .i64 (m:Int)])/\yx vn w' Q n Ls/\Below w.heap.size w w'
theorem SJ {z:Nat}{R:sK}(hz:z<=255)(h:uB w A n c R):
  Calls prog 39 #[.agg #[.int .u8 (z:Int),.slice A n c]] w (We w (min n 6) (z%7) (ul (z%7) R (min n 6))):=by
 obtain⟨i9,ba,bc,ao,ap⟩:=info_parts qb;have hn0:n<=1048576:=qH h.fits h.small;obtain⟨m,hm⟩:∃m,z%7=m:=⟨_,rfl⟩;have hm6:m<=6:=zb;have bd:(z:Int)%7=(m:Int):=zb;have bn:(z:Int).tmod 7=(m:Int):=by rw [XA zb];exact bd
 rw [hm];obtain⟨N,hN⟩:∃N,min n 6=N:=⟨_,rfl⟩;rw [hN];have hNn:N<=n:=zb;have hN6:N<=6:=zb;have X:N=n\/N=6:=zb;have HR:=zj w (λw' hb k (hk:k<n)=>by
  obtain⟨ad,e,h1,h2,h3⟩:=h.row k hk;exact(⟨ad,e,zv hb h2,h3.below hb⟩:∃ad,A=some ad/\w'.cell? (ad.add k)=some (.slice (R k).1 (R k).2.1 (R k).2.2.1)/\vn w' (R k).1 (R k).2.1 (R k).2.2.1 (R k).2.2.2))
 obtain⟨a5,ax,bz⟩:=zu w 24 #[.int .u8 (z:Int),.slice A n c];obtain⟨g0,g1⟩:=ax.c2;obtain⟨Z,hZ⟩:=Rd m zb;have hmk:=λW=>(hZ W).1;have av:=za (λW=>(hZ W).2);have hB:=a5;have hK:=ax;clear a5 ax bz h hZ hN hz;unfold We;have i0:(0:Int)<=(m:Int):=zb;go_enter func39,ntmps39;go_upto_region 3 with fail;clear hm bd bn g0 g1;go_wp2_with fail;generalize w.alloc (.cells #[.int .u8 (z:Int),.slice A n c] 24)=W1 at*
 go_loopg [5,6] (N+1) (λg sl ix wr=>∃(k:Nat) (v:Value) (vs:List Value),k<=N/\N<g+k/\ix=.int .i64 k/\v=sl/\wl vn wr (w.heap.size+1) 59 v (ul m R k) vs/\Below w.heap.size w wr/\zh wr w.heap.size 24 #[.int .u8 (z:Int),.slice A n c])
 case atStart=>exact⟨0,_,_,qW _,zb,rfl,rfl,wl.nil _ _ _,hB,hK⟩
 case round=>
  clear hB hK;obtain⟨k,v,vs,hkN,hg,rfl,rfl,Y,hB,hK⟩:=hrel;obtain⟨wo,bm⟩:∃wo,wo=wr:=⟨_,rfl⟩;subst bm;obtain⟨g0,g1⟩:=hK.c2;by_cases hlt:k<N
  ·have a0:k<n:=zb;have az:decide ((k:Int)<(n:Int))=true:=decide_eq_true zb;have ai:decide (k<n)=true:=decide_eq_true a0;have bi:decide ((k:Int)<6)=true:=decide_eq_true zb;have a6:decide (k<6)=true:=decide_eq_true zb;have i2:(0:Int)<=(k:Int):=zb;have i3:(k:Int)<(n:Int):=zb;have V:zd ((ul m R k).length=k):=aG _ _ _;have am:zd (ul m R (k+1)=ul m R k++[vd m (R k).2.2.2]):=SE _ _ _;have an:=za (λw' hb=>HR.o w' hb k a0);obtain⟨q,hq⟩:∃q,R k=q:=⟨_,rfl⟩;rw [hq] at am an;obtain⟨Ak,nk,ck,Lk⟩:=q;dsimp only at am an;clear hq;obtain⟨ad,rfl,bh,M⟩:=an.o wo hB;have a2:=za M.ints;have au:=za M.len;have hnk:nk<=1048576:=qH M.fits M.small;have HB:=za hB;have a4:=za Y;have HK:=za hK;clear Y hB hK M bh;go_wp2_with fail;have s:=av.o wo;have o:Below wo.heap.size wo (wo.alloc (.cells Z 98)):=(qZ _ wo).alloc (qX _) _;have s:uN (wo.alloc (.cells Z 98)) wo.heap.size m (vd m (Lk.take 0)):=s;obtain⟨gr,a9⟩:∃g,wo.heap.size=g:=⟨_,rfl⟩;have bb:wo.heap.size<=gr:=zb;rw [a9] at s⊢;generalize wo.alloc (.cells Z 98)=W2 at*;clear a9 g0 g1
   go_loopg [8] (m+1) (λg jx wr=>∃(j:Nat),j<=m/\j<=nk/\m<g+j/\jx=.int .i64 j/\uN wr gr m (vd m (Lk.take j))/\Below wo.heap.size wo wr)
   case atStart=>exact⟨0,qW _,qW _,zb,rfl,s,o⟩
   case round=>
    clear s o;obtain⟨j,hjm,hjn,hg2,rfl,s,o⟩:=hrel;obtain⟨p0,p1⟩:=(zg o HK.o).c2;by_cases hjl:j<m
    ·have bj:decide ((j:Int)<(m:Int))=true:=decide_eq_true zb;have a7:decide (j<m)=true:=decide_eq_true hjl;obtain⟨bg,e2,hc,M⟩:=an.o wr (zc HB.o o);obtain rfl:ad=bg:=by injection e2
     clear e2;by_cases hjk:j<nk
     ·have bk:decide ((j:Int)<(nk:Int))=true:=decide_eq_true zb;have a8:decide (j<nk)=true:=decide_eq_true hjk;obtain⟨ae,rfl,hae,bl,a1⟩:=M.row j _ (wy (d:=(0,0)) (by have:=au.o;omega));have a1:=fA a1;have U:(vd m (Lk.take j)).set j ((Lk.getD j (0,0)).1,(Lk.getD j (0,0)).2)=vd m (Lk.take (j+1)):=pg hjl (by have:=au.o;omega);obtain⟨x,hx⟩:∃x,(Lk.getD j (0,0)).1=x:=⟨_,rfl⟩;obtain⟨y,hy⟩:∃y,(Lk.getD j (0,0)).2=y:=⟨_,rfl⟩;rw [hx] at bl U;rw [hy] at a1 U;have i4:(0:Int)<=(j:Int):=zb;have i5:(j:Int)<(m:Int):=zb;have i6:(j:Int)<(nk:Int):=zb;have aj:=s.set_ hjl x y;rw [U] at aj;obtain⟨q0,q1,sc0,sf0,sc1,sf1⟩:=s.ready hjl (.int .i64 x);have a3:=za aj;have be:=za (zM (p:=⟨gr,j*2+1,none⟩) (.int .i64 y) bb (zM (p:=⟨gr,j*2,none⟩) (.int .i64 x) bb o));clear s aj o M U hx hy;go_wp2;go_roundg (m - j)
      case measure=>omega
      case rel=>exact⟨j+1,zb,zb,zb,by go_num,a3.o,be.o⟩
     ·have bk:decide ((j:Int)<(nk:Int))=false:=decide_eq_false zb;have a8:decide (j<nk)=false:=decide_eq_false hjk;have i5:(k:Int)<(n:Int):=zb;have D:j=m\/Lk.length<=j:=Or.inr (by have:=au.o;omega);have ak:=WU (m:=m) (L:=Lk) (c:=j) D;have aa:=za ((ak▸s).args (aU a2.o) zb);have t:=za (zc HB.o o);have I:=za (a4.o.below jc o);obtain⟨t1,t2,-⟩:=zu wr 59 #[.slice (some ⟨gr,0,none⟩) m m];have S:=za (zc t.o t1);have i:=za (I.o.below jc t1);have H:=za (aa.o.below t1);have F:=i.o.own;rw [V.o] at F;have K:=za F;have ag:=za i.o.sl;have B:=za (kT wr (.slice (some ⟨gr,0,none⟩) m m) 59);have ab:=za S.o.size;have T:=za (λr (h:v.ownBlock=some r)=>i.o.own.lt r h);have ah:zd (∀u ∈(Value.slice none 0 0).cells.toList,xp u):=by intro u hu;simp [Value.cells] at hu;exact⟨_,_,_,hu⟩
      have ac:zd (∀u ∈ [Value.slice (some ⟨gr,0,none⟩) m m],xp u):=by intro u hu;simp at hu;exact⟨_,_,_,hu⟩
      have J:zd (∀u ∈ [Value.slice (some ⟨gr,0,none⟩) m m],u.oneCell'=true):=by intro u hu;simp at hu;subst hu;rfl
      have C:=za (zg t1 (zg o HK.o));have bf:zd (Below w.heap.size w wr):=t.o;obtain⟨p0,p1⟩:=(zg o HK.o).c2;clear o s t1 t2 F ak D aa t I;go_wp2_with (at_builtin;go_loud (refine bH _ rfl (.tmp 52) (.tmp 54) 22 rfl (w.heap.size+1) 59 i9 (.slice none 0 0) 1 24 underlying22 ba bc ao ap rfl zf v k vs rfl K.o ⟨wr.heap.size,0,none⟩ 1 1 [.slice (some ⟨gr,0,none⟩) m m] rfl rfl B.o J.o (by unfold maxLen;omega) zb (C.o.lt) ag.o ah.o ac.o ?_;intro v' w8 G a ay P));have E:=wl.grow (n:=k+1) (L:=vd m Lk) jc i.o H.o (mS _ _) G (by rw [V.o]) a P;rw [<-am.o] at E;have af:=za E;have aq:=za (S.o.grown a ab.o (λr hr=>by have:=(T.o r hr).1;omega));have ar:zd (zh w8 w.heap.size 24 #[.int .u8 (z:Int),.slice (some ad) n c]):=p8 C.o a (λe=>by have:=(T.o _ e).1;omega);clear E G a ay P i H K ag B ab T ah ac J S C p0 p1;go_wp2;go_roundg (N - k)
      case measure=>omega
      case rel=>exact⟨k+1,_,_,zb,zb,by go_num,rfl,af.o,aq.o,ar.o⟩
    ·have bj:decide ((j:Int)<(m:Int))=false:=decide_eq_false zb;have a7:decide (j<m)=false:=decide_eq_false hjl;have D:j=m\/Lk.length<=j:=Or.inl zb;have ak:=WU (m:=m) (L:=Lk) (c:=j) D;have aa:=za ((ak▸s).args (aU a2.o) zb);have t:=za (zc HB.o o);have I:=za (a4.o.below jc o);obtain⟨t1,t2,-⟩:=zu wr 59 #[.slice (some ⟨gr,0,none⟩) m m];have S:=za (zc t.o t1);have i:=za (I.o.below jc t1);have H:=za (aa.o.below t1);have F:=i.o.own;rw [V.o] at F;have K:=za F;have ag:=za i.o.sl;have B:=za (kT wr (.slice (some ⟨gr,0,none⟩) m m) 59);have ab:=za S.o.size;have T:=za (λr (h:v.ownBlock=some r)=>i.o.own.lt r h);have ah:zd (∀u ∈(Value.slice none 0 0).cells.toList,xp u):=by intro u hu;simp [Value.cells] at hu;exact⟨_,_,_,hu⟩
     have ac:zd (∀u ∈ [Value.slice (some ⟨gr,0,none⟩) m m],xp u):=by intro u hu;simp at hu;exact⟨_,_,_,hu⟩
     have J:zd (∀u ∈ [Value.slice (some ⟨gr,0,none⟩) m m],u.oneCell'=true):=by intro u hu;simp at hu;subst hu;rfl
     have C:=za (zg t1 (zg o HK.o));have bf:zd (Below w.heap.size w wr):=t.o;obtain⟨p0,p1⟩:=(zg o HK.o).c2;clear o s t1 t2 F ak D aa t I;go_wp2_with (at_builtin;go_loud (refine bH _ rfl (.tmp 52) (.tmp 54) 22 rfl (w.heap.size+1) 59 i9 (.slice none 0 0) 1 24 underlying22 ba bc ao ap rfl zf v k vs rfl K.o ⟨wr.heap.size,0,none⟩ 1 1 [.slice (some ⟨gr,0,none⟩) m m] rfl rfl B.o J.o (by unfold maxLen;omega) zb (C.o.lt) ag.o ah.o ac.o ?_;intro v' w8 G a ay P));have E:=wl.grow (n:=k+1) (L:=vd m Lk) jc i.o H.o (mS _ _) G (by rw [V.o]) a P;rw [<-am.o] at E;have af:=za E;have aq:=za (S.o.grown a ab.o (λr hr=>by have:=(T.o r hr).1;omega));have ar:zd (zh w8 w.heap.size 24 #[.int .u8 (z:Int),.slice (some ad) n c]):=p8 C.o a (λe=>by have:=(T.o _ e).1;omega);clear E G a ay P i H K ag B ab T ah ac J S C p0 p1;go_wp2;go_roundg (N - k)
     case measure=>omega
     case rel=>exact⟨k+1,_,_,zb,zb,by go_num,rfl,af.o,aq.o,ar.o⟩
  ·have O:k=N:=zb;have V:zd ((ul m R k).length=N):=by rw [O];exact aG _ _ _
   obtain⟨Q,q,rfl,hq1,hq2,al,-⟩:=Y.shape V.o;rw [O] at al;have aw:=za al;have t:=za hB;rcases X with X|X
   ·have az:decide ((k:Int)<(n:Int))=false:=decide_eq_false zb;have ai:decide (k<n)=false:=decide_eq_false zb;clear Y hB hK al O hlt X;go_wp2
    go_ret2
    exact⟨Q,q,rfl,aw.o,t.o⟩
   ·have bi:decide ((k:Int)<6)=false:=decide_eq_false zb;have a6:decide (k<6)=false:=decide_eq_false zb;by_cases a0:k<n
    ·have az:decide ((k:Int)<(n:Int))=true:=decide_eq_true zb;have ai:decide (k<n)=true:=decide_eq_true zb;clear Y hB hK al O hlt X;go_wp2
     go_ret2
     exact⟨Q,q,rfl,aw.o,t.o⟩
    ·have az:decide ((k:Int)<(n:Int))=false:=decide_eq_false zb;have ai:decide (k<n)=false:=decide_eq_false zb;clear Y hB hK al O hlt X;go_wp2
     go_ret2
     exact⟨Q,q,rfl,aw.o,t.o⟩
def lP (m:Nat)(R:sK)(k:Nat):List (List Rat):=(ul m R k).map wQ
theorem aI (m:Nat)(R:sK)(k:Nat):zO (lP m R k) k m:=⟨by simp [lP,ul],λL hL=>by
 obtain⟨q,hq,rfl⟩:=List.mem_map.1 hL;obtain⟨i,hi,rfl⟩:=List.mem_map.1 hq;rw [jT,mS]⟩
theorem Zb {W:World}{m k:Nat}{R:sK}(h:uB W A n c R)(hk:k<=n):z7 1 (lP m R k):=λL hL x hx=>by
 obtain⟨q,hq,rfl⟩:=List.mem_map.1 hL;obtain⟨i,hi,rfl⟩:=List.mem_map.1 hq;obtain⟨p,hp,rfl⟩:=List.mem_map.1 hx;obtain⟨ad,e,_,_,h3⟩:=h.row i (by have:=List.mem_range.1 hi;omega);obtain⟨⟨h4,h5⟩,h6,h7⟩:=aU (m:=m) h3.ints p hp;exact po h4 h5 h6 h7
theorem Xl {z:Nat}{R:sK}(hT:zt w)(hz:z<=255)(h:uB w A n c R):
  Calls prog 8 #[.agg #[.int .u8 (z:Int),.slice A n c]] w (sE w (min n 6) (z%7) (lP (z%7) R (min n 6))):=by
 obtain⟨i9,a5,a9,ax,ay⟩:=info_parts io;have HZ:=za (Zb (m:=z%7) h (Nat.min_le_left n 6));have HD:=za (aI (z%7) R (min n 6));have HI:zd (∀k,k<min n 6->wO 0/\(ul (z%7) R (min n 6)).getD k []=vd (z%7) (R k).2.2.2):=λk hk=>⟨⟨zf,zf⟩,by
  unfold ul;rw [qQ,qN,xL hk];rfl⟩
 have a:=za (λW (hb:Below w.heap.size w W)=>SJ hz (show uB W A n c R from⟨h.fits,h.small,λr hr=>by
  obtain⟨ad,e,h1,h2,h3⟩:=h.row r hr;exact⟨ad,e,qJ h1 hb.size,zv hb h2,h3.below hb⟩⟩))
 obtain⟨m,hm⟩:∃m,z%7=m:=⟨_,rfl⟩;obtain⟨N,hN⟩:∃N,min n 6=N:=⟨_,rfl⟩;have hm6:m<=6:=zb;have hN6:N<=6:=zb;rw [hm,hN] at HZ HD HI a⊢;have HT:=zj w (λw' hb=>hT.on hb);have t:zd ((ul m R N).length=N):=aG _ _ _;obtain⟨G,hG⟩:∃G,ul m R N=G:=⟨_,rfl⟩;have an:lP m R N=G.map wQ:=by unfold lP;rw [hG]
 rw [hG] at HI a t;rw [an] at HZ HD⊢;have X:zd (∀k,k<N->(G.getD k []).length=m):=λk hk=>by rw [(HI.o k hk).2,mS]
 have a2:zd (∀k,k<N->(G.take (k+1)).map wQ=(G.take k).map wQ++[wQ (G.getD k [])]):=λk hk=>by
  have hl:=t.o;rw [QZ zb,YY,qQ,qY zb];rfl
 obtain⟨aj,ak,al,bz⟩:=yz w 24 28 #[.int .u8 (z:Int),.slice A n c] #[.slice none 0 0,.int .i64 0];obtain⟨g0,g1⟩:=ak.c2;have HB:=za aj;have HK:=za al;clear h hT hz hm hN hG an aj ak al bz HI;unfold sE;go_enter func8,ntmps8;go_wp2_with fail;(with_reducible refine(a.o _ HB.o).mono ?_);rintro e w1 ⟨Q,q,rfl,aw,hb⟩;have U:=za (zc HB.o hb);have a0:=za (zg hb HK.o);have a1:=za aw;have am:=qZ w1.heap.size w1;clear hb aw HB HK g0 g1 a;go_wp2_with fail
 go_loopg [5,6] (N+1) (λg sl ix wr=>∃(k:Nat) (v:Value) (vs:List Value),k<=N/\N<g+k/\ix=.int .i64 k/\v=sl/\wl (z8 zo) wr w1.heap.size 41 v ((G.take k).map wQ) vs/\Below w1.heap.size w1 wr)
 case atStart=>exact⟨0,_,_,qW _,zb,rfl,rfl,wl.nil _ _ _,am⟩
 case round=>
  clear am;obtain⟨k,v,vs,hkN,hg,rfl,rfl,y,o⟩:=hrel;by_cases hlt:k<N
  ·obtain⟨ad,B,d,rfl,-,hc,ha⟩:=a1.o.get jc o hlt (X.o k hlt);have a4:decide ((k:Int)<(N:Int))=true:=decide_eq_true zb;have i1:(0:Int)<=(k:Int):=zb;have i2:(k:Int)<(N:Int):=zb;have af:=za (a2.o k hlt);have V:=za (X.o k hlt);obtain⟨Lk,ao⟩:∃L,G.getD k []=L:=⟨_,rfl⟩;rw [ao] at ha af V;have ae:zd (((G.take k).map wQ).length=k):=by show _=_;rw [QH,qA];have:=t.o;omega
   have HA:=za ha;have aa:=za y;have O:=za o;clear ao ha y o;go_wp2_with fail;(with_reducible refine(SI (HT.o _ (zc U.o O.o)) HA.o).mono ?_);rintro e w5 ⟨A5,c5,rfl,hv5,-,hb⟩;obtain⟨t1,t2,-⟩:=zu w5 41 #[.slice A5 m c5];have T:=zc hb t1;have i:=za (aa.o.below (y7 zZ) T);have ah:=za (zR.keep hv5 t1);have M:=za (zc O.o T);have D:=i.o.own;rw [ae.o] at D;have I:=za D;have ag:=za i.o.sl;have s:=za (kT w5 (.slice A5 m c5) 41);have P:=za M.o.size;have Z:=za (λr (h:v.ownBlock=some r)=>i.o.own.lt r h);have ai:zd (∀u ∈(Value.slice none 0 0).cells.toList,xp u):=by intro u hu;simp [Value.cells] at hu;exact⟨_,_,_,hu⟩
   have Y:zd (∀u ∈ [Value.slice A5 m c5],xp u):=by intro u hu;simp at hu;exact⟨_,_,_,hu⟩
   have H:zd (∀u ∈ [Value.slice A5 m c5],u.oneCell'=true):=by intro u hu;simp at hu;subst hu;rfl
   clear hb hv5 t1 t2 T D hc aa O HA;go_wp2_with (at_builtin;go_loud (refine bH _ rfl (.tmp 20) (.tmp 26) 26 rfl w1.heap.size 41 i9 (.slice none 0 0) 1 24 underlying26 a5 a9 ax ay rfl zf v k vs rfl I.o ⟨w5.heap.size,0,none⟩ 1 1 [.slice A5 m c5] rfl rfl s.o H.o (by unfold maxLen;omega) zb P.o ag.o ai.o Y.o ?_;intro v' w8 E j a3 J));have C:=wl.grow (n:=k+1) (L:=wQ Lk) (y7 zZ) i.o ah.o (by rw [jT];exact V.o) E (by rw [ae.o]) j J;rw [<-af.o] at C;have ab:=za C;have az:=za (M.o.grown j P.o (λr hr=>(Z.o r hr).1));clear C E j a3 J i ah I ag s P Z ai Y H M;go_wp2;go_roundg (N - k)
   case measure=>omega
   case rel=>exact⟨k+1,_,_,zb,zb,by go_num,rfl,ab.o,az.o⟩
  ·have hk:k=N:=zb;subst hk;have a4:decide ((k:Int)<(k:Int))=false:=zA;rw [qV (by have:=t.o;omega)] at y;obtain⟨Q5,q5,rfl,a7,a8,av,-⟩:=y.shape (n:=k) (by rw [QH];exact t.o);have ac:=za av;have K:=za (zc U.o o);have S:=za (zg o a0.o);clear y o av a7 a8;go_wp2_with fail;(with_reducible refine(Z2 (HT.o _ K.o) ac.o HD.o zb zb HZ.o zf).mono ?_);rintro e w7 ⟨A7,c7,rfl,ar,aq,hb⟩;obtain⟨t1,t2,-⟩:=zu w7 28 #[.slice A7 k c7,.int .i64 (m:Int)];have F:=zg t1 (zg hb S.o);have a6:=S.o.lt;have au:=ar.keep t1;have ap:=zc K.o (zc hb t1);obtain⟨p0,p1⟩:=t2.c2;obtain⟨sc0,sf0,sc1,sf1⟩:=ue F (.slice A7 k c7);obtain⟨r0,r1⟩:=(ud F (.slice A7 k c7) (.int .i64 (m:Int))).c2;have HG:=za (iJ au (λad e=>qJ a6 (aq ad e)) F ap zb);unfold sE at HG;clear t1 t2 F au ap ar aq hb ac K S;go_wp2;refine bodyPost_ret (v:=.agg #[.slice A7 k c7,.int .i64 (m:Int)]) (by simp [results,results8,go_sem,r0,r1]) rfl ?_;exact HG.o
