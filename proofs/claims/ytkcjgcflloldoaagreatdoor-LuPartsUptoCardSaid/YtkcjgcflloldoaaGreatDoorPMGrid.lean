/- What this claim leans on. -/
import Derived.Test.YtkcjgcflloldoaaGreatDoorPEDetT
set_option linter.unusedVariables false
set_option linter.unusedSimpArgs false
namespace Go.Proofs.YtkcjgcflloldoaaGreatDoor
open Go Go.RowKit Go.Proofs.Tryz
set_option maxHeartbeats 16000000
set_option maxRecDepth 100000
variable {L:List (Int×Int)}{c g m n:Nat}{w:World}{A:ze}
theorem qt {t:TypeId}{cs:Array Value}(h:vT w A n c L)(hk:zh w g t cs)(hs:∀u ∈ cs.toList,xc u):0<n->∀ad,A=some ad->ad.block≠g:=λhn a e0 hg=>by
 have hl:=h.len;have h0:0<L.length:=za;obtain⟨ad,e,h1,h2,h3⟩:=h.row 0 _ (qY h0);obtain rfl:a=ad:=by rw [e0] at e;injection e
 have hb:(a.add (0*2)).block=g:=by rw [yw];exact hg
 generalize a.add (0*2)=q at hb h2;obtain⟨bk,off,pr⟩:=q;simp only at hb;subst hb;unfold zh at hk;cases pr with
 |none=>
   rw [show w.cell? ⟨bk,off,none⟩=cs[off]? from cell_of_row w bk off _ t (0,0) hk,<-QR] at h2;obtain⟨A9,n9,c9,e9⟩:=hs _ (QY h2);cases e9
 |some q=>simp [World.cell?,hk] at h2
theorem jk:tJ vT where
 len h:=h.len
 below h hb:=h.below hb
 offS h hk hs ho:=by
  have a:=qt h hk hs;have hl:=h.len;refine⟨h.len,h.fits,h.small,h.ints,λr q hr=>?_⟩;have hlt:=(List.getElem?_eq_some_iff.1 hr).1;obtain⟨ad,e,h1,h2,h3⟩:=h.row r q hr;exact⟨ad,e,qJ h1 ho.1,(ho.2 _ (by rw [yw];exact h1) (by rw [yw];exact a za ad e)).trans h2,(ho.2 _ (by rw [yw];exact h1) (by rw [yw];exact a za ad e)).trans h3⟩
 nil w:=⟨rfl,qX _,zf,(λq hq=>by cases hq),(λr q hr=>by simp at hr)⟩
def vm (m:Nat)(L:List (Int×Int)):List (Int×Int):=(List.range m).map λj=>L.getD j (0,0)
theorem nC (m:Nat)(L:List (Int×Int)):(vm m L).length=m:=by simp [vm]
theorem X1 {j:Nat}(L:List (Int×Int))(h:j<m):(vm m L)[j]?=some (L.getD j (0,0)):=by
 unfold vm;rw [qW,xD h];rfl
theorem pR (hc:c<m)(hl:c<L.length):(vm m (L.take c)).set c (L.getD c (0,0))=vm m (L.take (c+1)):=by
 apply List.ext_getElem?;intro j;by_cases hj:j<m
 ·rw [X1 _ hj];by_cases h:c=j
  ·subst h;rw [XY (by rw [nC];exact hc)];congr 1;rw [qQ,qQ,xI,if_pos za]
  ·rw [XJ h,X1 _ hj];congr 1;rw [qQ,qQ,xI,xI];by_cases h2:j<c
   ·rw [if_pos h2,if_pos za]
   ·rw [if_neg h2,if_neg za]
 ·rw [QE (by rw [QV,nC];omega),QE (by rw [nC];omega)]
theorem Tb {m c:Nat}{L:List (Int×Int)}(h:c=m\/L.length<=c):vm m (L.take c)=vm m L:=by
 unfold vm;refine List.map_congr_left λj hj=>?_;have hj:=List.mem_range.1 hj;rcases h with h|h
 ·rw [qQ,qQ,xI,if_pos za]
 ·rw [qV h]
theorem Yy {m:Nat}(h:∀q ∈ L,wv q.1/\wv q.2):∀q ∈ vm m L,wv q.1/\wv q.2:=λq hq=>by
 obtain⟨j,hj,rfl⟩:=List.mem_map.1 hq;rw [qQ];cases e:L[j]? with
 |none=>exact⟨⟨zf,zf⟩,⟨zf,zf⟩⟩
 |some q=>exact h q (QY e)
structure tn (w:World)(g m:Nat)(L:List (Int×Int)):Prop where
 len:L.length=m
 blk:∃cs:Array Value,zh w g 117 cs/\cs.size=m*2
 num:∀j q,L[j]?=some q->w.cell? ⟨g,j*2,none⟩=some (.int .i64 q.1)/\w.cell? ⟨g,j*2+1,none⟩=some (.int .i64 q.2)
theorem tn.below {w':World}(h:tn w g m L)(hb:Below w.heap.size w w'):tn w' g m L:=by
 refine⟨h.len,?_,λj q hj=>?_⟩
 ·obtain⟨cs,hk,h1⟩:=h.blk;exact⟨cs,zg hb hk,h1⟩
 ·obtain⟨h1,h2⟩:=h.num j q hj;exact⟨zq hb h1,zq hb h2⟩
theorem tn.args (h:tn w g m L)(hi:∀q ∈ L,wv q.1/\wv q.2)(hm:m<=1048576):vT w (some ⟨g,0,none⟩) m m L:=
 ⟨h.len,qX _,hm,hi,λr q hr=>by
  obtain⟨cs,hk,_⟩:=h.blk;obtain⟨h1,h2⟩:=h.num r q hr;exact⟨_,rfl,hk.lt,by rw [wu];exact h1,by rw [wu];exact h2⟩⟩
theorem tn.ready (h:tn w g m L){i:Nat}(hi:i<m)(x:Value):∃a b:Value,w.cell? ⟨g,i*2,none⟩=some a/\w.frozen? ⟨g,i*2,none⟩=false/\(w.setCell ⟨g,i*2,none⟩ x).cell? ⟨g,i*2+1,none⟩=some b/\(w.setCell ⟨g,i*2,none⟩ x).frozen? ⟨g,i*2+1,none⟩=false:=by
 obtain⟨cs,hk,h2⟩:=h.blk;have c:=hk.set_ (i*2) x;have e0:i*2<cs.size:=za;have e1:i*2+1<(cs.setIfInBounds (i*2) x).size:=by simp;omega
 exact⟨_,_,(hk.cell _).trans (QU e0),hk.frozen _,(c.cell _).trans (QU e1),c.frozen _⟩
theorem tn.set_ (h:tn w g m L){i:Nat}(hi:i<m)(x y:Int):tn ((w.setCell ⟨g,i*2,none⟩ (.int .i64 x)).setCell ⟨g,i*2+1,none⟩ (.int .i64 y)) g m (L.set i (x,y)):=by
 obtain⟨cs,hk,h2⟩:=h.blk;have hl:=h.len;have a:=(hk.set_ (i*2) (.int .i64 x)).set_ (i*2+1) (.int .i64 y);refine⟨by rw [QV];exact h.len,⟨_,a,by simp;exact h2⟩,λj q hj=>?_⟩;by_cases hij:i=j
 ·subst hij;rw [XY za] at hj;injection hj with hj;subst hj;refine⟨?_,?_⟩
  ·rw [a.cell,qK za,QZ za]
  ·rw [a.cell,QZ (by simp;omega)]
 ·rw [XJ hij] at hj;obtain⟨c1,c2⟩:=h.num j q hj;refine⟨?_,?_⟩
  ·rw [a.cell,qK za,qK za,<-hk.cell];exact c1
  ·rw [a.cell,qK za,qK za,<-hk.cell];exact c2
def bJ:Array Value:=#[.int .i64 0,.int .i64 0]
theorem tn.made (w:World)(n:Nat):tn (w.alloc (.cells (madeCells bJ (n*2)) 117)) w.heap.size n (vm n ([]:List (Int×Int))):=by
 have hk:=zh.new w 117 (madeCells bJ (n*2));refine⟨nC _ _,⟨_,hk,size_madeCells _ _⟩,λi x hi=>?_⟩;have a:i<n:=by
  have:=(List.getElem?_eq_some_iff.1 hi).1;rwa [nC] at this
 rw [X1 _ a] at hi;injection hi with hi;subst hi;have e0:(i*2)%2=0:=za;have e1:(i*2+1)%2=1:=za;refine⟨?_,?_⟩
 ·rw [hk.cell,jf _ _ _ za,show bJ.size=2 from rfl,e0];rfl
 ·rw [hk.cell,jf _ _ _ za,show bJ.size=2 from rfl,e1];rfl
theorem mu:(prog.info? 117).map (λi=>(i.zero,i.size,i.bytes))=some (some (.agg #[.int .i64 0,.int .i64 0]),2,16):=zU
theorem pf:(prog.info? 77).map (λi=>(i.zero,i.size,i.bytes))=some (some (.slice none 0 0),1,24):=zU
theorem Pz (n:Nat)(hn:n<=1048576):∃Z:Array Value,∀W:World,(Instr.makeSlice 77 (.int .i64 (n:Int)) (.int .i64 (n:Int))).run prog W=.ok (.slice (some ⟨W.heap.size,0,none⟩) n n) (W.alloc (.cells Z 117))/\tn (W.alloc (.cells Z 117)) W.heap.size n (vm n ([]:List (Int×Int))):=by
 obtain⟨i0,a,c,d,g⟩:=info_parts mu;refine⟨madeCells bJ (n*2),λW=>⟨?_,tn.made W n⟩⟩;have h:=sV (P:=prog) _ _ i0 _ underlying77 a c .i64 .i64 n n (qX _) (by rw [g];omega) za W;rw [d] at h;exact h
def vO (m:Nat)(R:rl)(k:Nat):List (List (Int×Int)):=(List.range k).map λi=>vm m (R i).2.2.2
theorem aQ (m:Nat)(R:rl)(k:Nat):(vO m R k).length=k:=by simp [vO]
theorem Pp (m:Nat)(R:rl)(k:Nat):vO m R (k+1)=vO m R k++[vm m (R k).2.2.2]:=by simp [vO,YK]
def V8 (w:World)(n m:Nat)(Ls:List (List (Int×Int)))(e:Ending)(w':World):Prop:=∃(Q:ze) (q:Nat),e=.returned (.tuple #[.slice Q n q,.int .i64 (m:Int)])/\xi vT w' Q n Ls/\Below w.heap.size w w'
theorem VP {z:Nat}{R:rl}(hz:z<=255)(h:uH w A n c R):
  Calls prog 32 #[.agg #[.int .u8 (z:Int),.slice A n c]] w (V8 w (min n 6) (z%7) (vO (z%7) R (min n 6))):=by
 obtain⟨i9,ba,bc,ao,ap⟩:=info_parts pf;have hn0:n<=1048576:=qD h.fits h.small;obtain⟨m,hm⟩:∃m,z%7=m:=⟨_,rfl⟩;have hm6:m<=6:=za;have bd:(z:Int)%7=(m:Int):=za;have bn:(z:Int).tmod 7=(m:Int):=by rw [xC za];exact bd
 rw [hm];obtain⟨N,hN⟩:∃N,min n 6=N:=⟨_,rfl⟩;rw [hN];have hNn:N<=n:=za;have hN6:N<=6:=za;have X:N=n\/N=6:=za;have HR:=zj w (λw' hb k (hk:k<n)=>by
  obtain⟨ad,e,h1,h2,h3⟩:=h.row k hk;exact(⟨ad,e,zq hb h2,h3.below hb⟩:∃ad,A=some ad/\w'.cell? (ad.add k)=some (.slice (R k).1 (R k).2.1 (R k).2.2.1)/\vT w' (R k).1 (R k).2.1 (R k).2.2.1 (R k).2.2.2))
 obtain⟨a5,ax,bz⟩:=zw w 24 #[.int .u8 (z:Int),.slice A n c];obtain⟨g0,g1⟩:=ax.c2;obtain⟨Z,hZ⟩:=Pz m za;have hmk:=λW=>(hZ W).1;have av:=zb (λW=>(hZ W).2);have hB:=a5;have hK:=ax;clear a5 ax bz h hZ hN hz;unfold V8;have i0:(0:Int)<=(m:Int):=za;go_enter func32,ntmps32;go_upto_region 3 with fail;clear hm bd bn g0 g1;go_wp2_with fail;generalize w.alloc (.cells #[.int .u8 (z:Int),.slice A n c] 24)=W1 at*
 go_loopg [5,6] (N+1) (λg sl ix wr=>∃(k:Nat) (v:Value) (vs:List Value),k<=N/\N<g+k/\ix=.int .i64 k/\v=sl/\xe vT wr (w.heap.size+1) 77 v (vO m R k) vs/\Below w.heap.size w wr/\zh wr w.heap.size 24 #[.int .u8 (z:Int),.slice A n c])
 case atStart=>exact⟨0,_,_,QQ _,za,rfl,rfl,xe.nil _ _ _,hB,hK⟩
 case round=>
  clear hB hK;obtain⟨k,v,vs,hkN,hg,rfl,rfl,Y,hB,hK⟩:=hrel;obtain⟨wo,bm⟩:∃wo,wo=wr:=⟨_,rfl⟩;subst bm;obtain⟨g0,g1⟩:=hK.c2;by_cases hlt:k<N
  ·have a0:k<n:=za;have az:decide ((k:Int)<(n:Int))=true:=decide_eq_true za;have ai:decide (k<n)=true:=decide_eq_true a0;have bi:decide ((k:Int)<6)=true:=decide_eq_true za;have a6:decide (k<6)=true:=decide_eq_true za;have i2:(0:Int)<=(k:Int):=za;have i3:(k:Int)<(n:Int):=za;have V:zd ((vO m R k).length=k):=aQ _ _ _;have am:zd (vO m R (k+1)=vO m R k++[vm m (R k).2.2.2]):=Pp _ _ _;have an:=zb (λw' hb=>HR.o w' hb k a0);obtain⟨q,hq⟩:∃q,R k=q:=⟨_,rfl⟩;rw [hq] at am an;obtain⟨Ak,nk,ck,Lk⟩:=q;dsimp only at am an;clear hq;obtain⟨ad,rfl,bh,M⟩:=an.o wo hB;have a2:=zb M.ints;have au:=zb M.len;have hnk:nk<=1048576:=qD M.fits M.small;have HB:=zb hB;have a4:=zb Y;have HK:=zb hK;clear Y hB hK M bh;go_wp2_with fail;have s:=av.o wo;have o:Below wo.heap.size wo (wo.alloc (.cells Z 117)):=(qZ _ wo).alloc (qX _) _;have s:tn (wo.alloc (.cells Z 117)) wo.heap.size m (vm m (Lk.take 0)):=s;obtain⟨gr,a9⟩:∃g,wo.heap.size=g:=⟨_,rfl⟩;have bb:wo.heap.size<=gr:=za;rw [a9] at s⊢;generalize wo.alloc (.cells Z 117)=W2 at*;clear a9 g0 g1
   go_loopg [8] (m+1) (λg jx wr=>∃(j:Nat),j<=m/\j<=nk/\m<g+j/\jx=.int .i64 j/\tn wr gr m (vm m (Lk.take j))/\Below wo.heap.size wo wr)
   case atStart=>exact⟨0,QQ _,QQ _,za,rfl,s,o⟩
   case round=>
    clear s o;obtain⟨j,hjm,hjn,hg2,rfl,s,o⟩:=hrel;obtain⟨p0,p1⟩:=(zg o HK.o).c2;by_cases hjl:j<m
    ·have bj:decide ((j:Int)<(m:Int))=true:=decide_eq_true za;have a7:decide (j<m)=true:=decide_eq_true hjl;obtain⟨bg,e2,hc,M⟩:=an.o wr (zc HB.o o);obtain rfl:ad=bg:=by injection e2
     clear e2;by_cases hjk:j<nk
     ·have bk:decide ((j:Int)<(nk:Int))=true:=decide_eq_true za;have a8:decide (j<nk)=true:=decide_eq_true hjk;obtain⟨ae,rfl,hae,bl,a1⟩:=M.row j _ (vi (d:=(0,0)) (by have:=au.o;omega));have a1:=cY a1;have U:(vm m (Lk.take j)).set j ((Lk.getD j (0,0)).1,(Lk.getD j (0,0)).2)=vm m (Lk.take (j+1)):=pR hjl (by have:=au.o;omega);obtain⟨x,hx⟩:∃x,(Lk.getD j (0,0)).1=x:=⟨_,rfl⟩;obtain⟨y,hy⟩:∃y,(Lk.getD j (0,0)).2=y:=⟨_,rfl⟩;rw [hx] at bl U;rw [hy] at a1 U;have i4:(0:Int)<=(j:Int):=za;have i5:(j:Int)<(m:Int):=za;have i6:(j:Int)<(nk:Int):=za;have aj:=s.set_ hjl x y;rw [U] at aj;obtain⟨q0,q1,sc0,sf0,sc1,sf1⟩:=s.ready hjl (.int .i64 x);have a3:=zb aj;have be:=zb (zB (p:=⟨gr,j*2+1,none⟩) (.int .i64 y) bb (zB (p:=⟨gr,j*2,none⟩) (.int .i64 x) bb o));clear s aj o M U hx hy;go_wp2;go_roundg (m - j)
      case measure=>omega
      case rel=>exact⟨j+1,za,za,za,by go_num,a3.o,be.o⟩
     ·have bk:decide ((j:Int)<(nk:Int))=false:=decide_eq_false za;have a8:decide (j<nk)=false:=decide_eq_false hjk;have i5:(k:Int)<(n:Int):=za;have D:j=m\/Lk.length<=j:=Or.inr (by have:=au.o;omega);have ak:=Tb (m:=m) (L:=Lk) (c:=j) D;have aa:=zb ((ak▸s).args (Yy a2.o) za);have t:=zb (zc HB.o o);have I:=zb (a4.o.below jk o);obtain⟨t1,t2,-⟩:=zw wr 77 #[.slice (some ⟨gr,0,none⟩) m m];have S:=zb (zc t.o t1);have i:=zb (I.o.below jk t1);have H:=zb (aa.o.below t1);have F:=i.o.own;rw [V.o] at F;have K:=zb F;have ag:=zb i.o.sl;have B:=zb (vI wr (.slice (some ⟨gr,0,none⟩) m m) 77);have ab:=zb S.o.size;have T:=zb (λr (h:v.ownBlock=some r)=>i.o.own.lt r h);have ah:zd (∀u ∈(Value.slice none 0 0).cells.toList,xc u):=by intro u hu;simp [Value.cells] at hu;exact⟨_,_,_,hu⟩
      have ac:zd (∀u ∈ [Value.slice (some ⟨gr,0,none⟩) m m],xc u):=by intro u hu;simp at hu;exact⟨_,_,_,hu⟩
      have J:zd (∀u ∈ [Value.slice (some ⟨gr,0,none⟩) m m],u.oneCell'=true):=by intro u hu;simp at hu;subst hu;rfl
      have C:=zb (zg t1 (zg o HK.o));have bf:zd (Below w.heap.size w wr):=t.o;obtain⟨p0,p1⟩:=(zg o HK.o).c2;clear o s t1 t2 F ak D aa t I;go_wp2_with (at_builtin;go_loud (refine bU _ rfl (.tmp 52) (.tmp 54) 22 rfl (w.heap.size+1) 77 i9 (.slice none 0 0) 1 24 underlying22 ba bc ao ap rfl zf v k vs rfl K.o ⟨wr.heap.size,0,none⟩ 1 1 [.slice (some ⟨gr,0,none⟩) m m] rfl rfl B.o J.o (by unfold maxLen;omega) za (C.o.lt) ag.o ah.o ac.o ?_;intro v' w8 G a ay P));have E:=xe.grow (n:=k+1) (L:=vm m Lk) jk i.o H.o (nC _ _) G (by rw [V.o]) a P;rw [<-am.o] at E;have af:=zb E;have aq:=zb (S.o.grown a ab.o (λr hr=>by have:=(T.o r hr).1;omega));have ar:zd (zh w8 w.heap.size 24 #[.int .u8 (z:Int),.slice (some ad) n c]):=uw C.o a (λe=>by have:=(T.o _ e).1;omega);clear E G a ay P i H K ag B ab T ah ac J S C p0 p1;go_wp2;go_roundg (N - k)
      case measure=>omega
      case rel=>exact⟨k+1,_,_,za,za,by go_num,rfl,af.o,aq.o,ar.o⟩
    ·have bj:decide ((j:Int)<(m:Int))=false:=decide_eq_false za;have a7:decide (j<m)=false:=decide_eq_false hjl;have D:j=m\/Lk.length<=j:=Or.inl za;have ak:=Tb (m:=m) (L:=Lk) (c:=j) D;have aa:=zb ((ak▸s).args (Yy a2.o) za);have t:=zb (zc HB.o o);have I:=zb (a4.o.below jk o);obtain⟨t1,t2,-⟩:=zw wr 77 #[.slice (some ⟨gr,0,none⟩) m m];have S:=zb (zc t.o t1);have i:=zb (I.o.below jk t1);have H:=zb (aa.o.below t1);have F:=i.o.own;rw [V.o] at F;have K:=zb F;have ag:=zb i.o.sl;have B:=zb (vI wr (.slice (some ⟨gr,0,none⟩) m m) 77);have ab:=zb S.o.size;have T:=zb (λr (h:v.ownBlock=some r)=>i.o.own.lt r h);have ah:zd (∀u ∈(Value.slice none 0 0).cells.toList,xc u):=by intro u hu;simp [Value.cells] at hu;exact⟨_,_,_,hu⟩
     have ac:zd (∀u ∈ [Value.slice (some ⟨gr,0,none⟩) m m],xc u):=by intro u hu;simp at hu;exact⟨_,_,_,hu⟩
     have J:zd (∀u ∈ [Value.slice (some ⟨gr,0,none⟩) m m],u.oneCell'=true):=by intro u hu;simp at hu;subst hu;rfl
     have C:=zb (zg t1 (zg o HK.o));have bf:zd (Below w.heap.size w wr):=t.o;obtain⟨p0,p1⟩:=(zg o HK.o).c2;clear o s t1 t2 F ak D aa t I;go_wp2_with (at_builtin;go_loud (refine bU _ rfl (.tmp 52) (.tmp 54) 22 rfl (w.heap.size+1) 77 i9 (.slice none 0 0) 1 24 underlying22 ba bc ao ap rfl zf v k vs rfl K.o ⟨wr.heap.size,0,none⟩ 1 1 [.slice (some ⟨gr,0,none⟩) m m] rfl rfl B.o J.o (by unfold maxLen;omega) za (C.o.lt) ag.o ah.o ac.o ?_;intro v' w8 G a ay P));have E:=xe.grow (n:=k+1) (L:=vm m Lk) jk i.o H.o (nC _ _) G (by rw [V.o]) a P;rw [<-am.o] at E;have af:=zb E;have aq:=zb (S.o.grown a ab.o (λr hr=>by have:=(T.o r hr).1;omega));have ar:zd (zh w8 w.heap.size 24 #[.int .u8 (z:Int),.slice (some ad) n c]):=uw C.o a (λe=>by have:=(T.o _ e).1;omega);clear E G a ay P i H K ag B ab T ah ac J S C p0 p1;go_wp2;go_roundg (N - k)
     case measure=>omega
     case rel=>exact⟨k+1,_,_,za,za,by go_num,rfl,af.o,aq.o,ar.o⟩
  ·have O:k=N:=za;have V:zd ((vO m R k).length=N):=by rw [O];exact aQ _ _ _
   obtain⟨Q,q,rfl,hq1,hq2,al,-⟩:=Y.shape V.o;rw [O] at al;have aw:=zb al;have t:=zb hB;rcases X with X|X
   ·have az:decide ((k:Int)<(n:Int))=false:=decide_eq_false za;have ai:decide (k<n)=false:=decide_eq_false za;clear Y hB hK al O hlt X;go_wp2
    go_ret2
    exact⟨Q,q,rfl,aw.o,t.o⟩
   ·have bi:decide ((k:Int)<6)=false:=decide_eq_false za;have a6:decide (k<6)=false:=decide_eq_false za;by_cases a0:k<n
    ·have az:decide ((k:Int)<(n:Int))=true:=decide_eq_true za;have ai:decide (k<n)=true:=decide_eq_true za;clear Y hB hK al O hlt X;go_wp2
     go_ret2
     exact⟨Q,q,rfl,aw.o,t.o⟩
    ·have az:decide ((k:Int)<(n:Int))=false:=decide_eq_false za;have ai:decide (k<n)=false:=decide_eq_false za;clear Y hB hK al O hlt X;go_wp2
     go_ret2
     exact⟨Q,q,rfl,aw.o,t.o⟩
def nH (m:Nat)(R:rl)(k:Nat):List (List Rat):=(vO m R k).map wl
theorem Yh (m:Nat)(R:rl)(k:Nat):zQ (nH m R k) k m:=⟨by simp [nH,vO],λL hL=>by
 obtain⟨q,hq,rfl⟩:=List.mem_map.1 hL;obtain⟨i,hi,rfl⟩:=List.mem_map.1 hq;rw [kh,nC]⟩
theorem Ti {W:World}{m k:Nat}{R:rl}(h:uH W A n c R)(hk:k<=n):yc 1 (nH m R k):=λL hL x hx=>by
 obtain⟨q,hq,rfl⟩:=List.mem_map.1 hL;obtain⟨i,hi,rfl⟩:=List.mem_map.1 hq;obtain⟨p,hp,rfl⟩:=List.mem_map.1 hx;obtain⟨ad,e,_,_,h3⟩:=h.row i (by have:=List.mem_range.1 hi;omega);obtain⟨⟨h4,h5⟩,h6,h7⟩:=Yy (m:=m) h3.ints p hp;exact ip h4 h5 h6 h7
theorem Pt {z:Nat}{R:rl}(hT:zu w)(hz:z<=255)(h:uH w A n c R):
  Calls prog 6 #[.agg #[.int .u8 (z:Int),.slice A n c]] w (sW w (min n 6) (z%7) (nH (z%7) R (min n 6))):=by
 obtain⟨i9,a5,a9,ax,ay⟩:=info_parts bA;have HZ:=zb (Ti (m:=z%7) h (Nat.min_le_left n 6));have HD:=zb (Yh (z%7) R (min n 6));have HI:zd (∀k,k<min n 6->wv 0/\(vO (z%7) R (min n 6)).getD k []=vm (z%7) (R k).2.2.2):=λk hk=>⟨⟨zf,zf⟩,by
  unfold vO;rw [qQ,qW,xD hk];rfl⟩
 have a:=zb (λW (hb:Below w.heap.size w W)=>VP hz (show uH W A n c R from⟨h.fits,h.small,λr hr=>by
  obtain⟨ad,e,h1,h2,h3⟩:=h.row r hr;exact⟨ad,e,qJ h1 hb.size,zq hb h2,h3.below hb⟩⟩))
 obtain⟨m,hm⟩:∃m,z%7=m:=⟨_,rfl⟩;obtain⟨N,hN⟩:∃N,min n 6=N:=⟨_,rfl⟩;have hm6:m<=6:=za;have hN6:N<=6:=za;rw [hm,hN] at HZ HD HI a⊢;have HT:=zj w (λw' hb=>hT.on hb);have t:zd ((vO m R N).length=N):=aQ _ _ _;obtain⟨G,hG⟩:∃G,vO m R N=G:=⟨_,rfl⟩;have an:nH m R N=G.map wl:=by unfold nH;rw [hG]
 rw [hG] at HI a t;rw [an] at HZ HD⊢;have X:zd (∀k,k<N->(G.getD k []).length=m):=λk hk=>by rw [(HI.o k hk).2,nC]
 have a2:zd (∀k,k<N->(G.take (k+1)).map wl=(G.take k).map wl++[wl (G.getD k [])]):=λk hk=>by
  have hl:=t.o;rw [qC za,YG,qQ,qY za];rfl
 obtain⟨aj,ak,al,bz⟩:=z8 w 24 28 #[.int .u8 (z:Int),.slice A n c] #[.slice none 0 0,.int .i64 0];obtain⟨g0,g1⟩:=ak.c2;have HB:=zb aj;have HK:=zb al;clear h hT hz hm hN hG an aj ak al bz HI;unfold sW;go_enter func6,ntmps6;go_wp2_with fail;(with_reducible refine(a.o _ HB.o).mono ?_);rintro e w1 ⟨Q,q,rfl,aw,hb⟩;have U:=zb (zc HB.o hb);have a0:=zb (zg hb HK.o);have a1:=zb aw;have am:=qZ w1.heap.size w1;clear hb aw HB HK g0 g1 a;go_wp2_with fail
 go_loopg [5,6] (N+1) (λg sl ix wr=>∃(k:Nat) (v:Value) (vs:List Value),k<=N/\N<g+k/\ix=.int .i64 k/\v=sl/\xe (zZ zp) wr w1.heap.size 58 v ((G.take k).map wl) vs/\Below w1.heap.size w1 wr)
 case atStart=>exact⟨0,_,_,QQ _,za,rfl,rfl,xe.nil _ _ _,am⟩
 case round=>
  clear am;obtain⟨k,v,vs,hkN,hg,rfl,rfl,y,o⟩:=hrel;by_cases hlt:k<N
  ·obtain⟨ad,B,d,rfl,-,hc,ha⟩:=a1.o.get jk o hlt (X.o k hlt);have a4:decide ((k:Int)<(N:Int))=true:=decide_eq_true za;have i1:(0:Int)<=(k:Int):=za;have i2:(k:Int)<(N:Int):=za;have af:=zb (a2.o k hlt);have V:=zb (X.o k hlt);obtain⟨Lk,ao⟩:∃L,G.getD k []=L:=⟨_,rfl⟩;rw [ao] at ha af V;have ae:zd (((G.take k).map wl).length=k):=by show _=_;rw [QP,qL];have:=t.o;omega
   have HA:=zb ha;have aa:=zb y;have O:=zb o;clear ao ha y o;go_wp2_with fail;(with_reducible refine(Ps (HT.o _ (zc U.o O.o)) HA.o).mono ?_);rintro e w5 ⟨A5,c5,rfl,hv5,-,hb⟩;obtain⟨t1,t2,-⟩:=zw w5 58 #[.slice A5 m c5];have T:=zc hb t1;have i:=zb (aa.o.below (yk yt) T);have ah:=zb (z7.keep hv5 t1);have M:=zb (zc O.o T);have D:=i.o.own;rw [ae.o] at D;have I:=zb D;have ag:=zb i.o.sl;have s:=zb (vI w5 (.slice A5 m c5) 58);have P:=zb M.o.size;have Z:=zb (λr (h:v.ownBlock=some r)=>i.o.own.lt r h);have ai:zd (∀u ∈(Value.slice none 0 0).cells.toList,xc u):=by intro u hu;simp [Value.cells] at hu;exact⟨_,_,_,hu⟩
   have Y:zd (∀u ∈ [Value.slice A5 m c5],xc u):=by intro u hu;simp at hu;exact⟨_,_,_,hu⟩
   have H:zd (∀u ∈ [Value.slice A5 m c5],u.oneCell'=true):=by intro u hu;simp at hu;subst hu;rfl
   clear hb hv5 t1 t2 T D hc aa O HA;go_wp2_with (at_builtin;go_loud (refine bU _ rfl (.tmp 20) (.tmp 26) 26 rfl w1.heap.size 58 i9 (.slice none 0 0) 1 24 underlying26 a5 a9 ax ay rfl zf v k vs rfl I.o ⟨w5.heap.size,0,none⟩ 1 1 [.slice A5 m c5] rfl rfl s.o H.o (by unfold maxLen;omega) za P.o ag.o ai.o Y.o ?_;intro v' w8 E j a3 J));have C:=xe.grow (n:=k+1) (L:=wl Lk) (yk yt) i.o ah.o (by rw [kh];exact V.o) E (by rw [ae.o]) j J;rw [<-af.o] at C;have ab:=zb C;have az:=zb (M.o.grown j P.o (λr hr=>(Z.o r hr).1));clear C E j a3 J i ah I ag s P Z ai Y H M;go_wp2;go_roundg (N - k)
   case measure=>omega
   case rel=>exact⟨k+1,_,_,za,za,by go_num,rfl,ab.o,az.o⟩
  ·have hk:k=N:=za;subst hk;have a4:decide ((k:Int)<(k:Int))=false:=zG;rw [qV (by have:=t.o;omega)] at y;obtain⟨Q5,q5,rfl,a7,a8,av,-⟩:=y.shape (n:=k) (by rw [QP];exact t.o);have ac:=zb av;have K:=zb (zc U.o o);have S:=zb (zg o a0.o);clear y o av a7 a8;go_wp2_with fail;(with_reducible refine(Wv (HT.o _ K.o) ac.o HD.o za za HZ.o zf).mono ?_);rintro e w7 ⟨A7,c7,rfl,ar,aq,hb⟩;obtain⟨t1,t2,-⟩:=zw w7 28 #[.slice A7 k c7,.int .i64 (m:Int)];have F:=zg t1 (zg hb S.o);have a6:=S.o.lt;have au:=ar.keep t1;have ap:=zc K.o (zc hb t1);obtain⟨p0,p1⟩:=t2.c2;obtain⟨sc0,sf0,sc1,sf1⟩:=vh F (.slice A7 k c7);obtain⟨r0,r1⟩:=(vg F (.slice A7 k c7) (.int .i64 (m:Int))).c2;have HG:=zb (fT au (λad e=>qJ a6 (aq ad e)) F ap za);unfold sW at HG;clear t1 t2 F au ap ar aq hb ac K S;go_wp2;refine bodyPost_ret (v:=.agg #[.slice A7 k c7,.int .i64 (m:Int)]) (by simp [results,results6,go_sem,r0,r1]) rfl ?_;exact HG.o
