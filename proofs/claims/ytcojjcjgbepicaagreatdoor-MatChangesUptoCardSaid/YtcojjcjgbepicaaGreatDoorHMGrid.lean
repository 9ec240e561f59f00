/- What this claim leans on. -/
import Derived.Test.YtcojjcjgbepicaaGreatDoorHMOf
namespace Go.Proofs.YtcojjcjgbepicaaGreatDoor
open Go Go.RowKit Go.Proofs.Tryz
set_option maxHeartbeats 16000000
set_option maxRecDepth 100000
set_option linter.unusedVariables false
set_option linter.unusedSimpArgs false
theorem fracs_ne {w:World}{A:oA9}{n c g:Nat}{L:List (Int×Int)}{t:TypeId}{cs:Array Value}(h:zaX w A n c L)(hk:Blk w g t cs)(hs:∀u ∈ cs.toList,zbf u):0<n->∀ad,A=some ad->ad.block≠g:=λhn a e0 hg=>by
 have hl:=h.len;have h0:0<L.length:=om9;obtain⟨ad,e,h1,h2,h3⟩:=h.row 0 _ (List.getElem?_eq_getElem h0);obtain rfl:a=ad:=by rw [e0] at e;injection e
 have hb:(a.add (0*2)).block=g:=by rw [zan];exact hg
 generalize a.add (0*2)=q at hb h2;obtain⟨bk,off,pr⟩:=q;simp only at hb;subst hb;unfold Blk at hk;cases pr with
 |none=>
   rw [show w.cell? ⟨bk,off,none⟩=cs[off]? from cell_of_row w bk off _ t (0,0) hk,<-Array.getElem?_toList] at h2;obtain⟨A9,n9,c9,e9⟩:=hs _ (List.mem_of_getElem? h2);cases e9
 |some q=>simp [World.cell?,hk] at h2
theorem zdE:zcL zaX where
 len h:=h.len
 below h hb:=h.below hb
 offS h hk hs ho:=by
  have a:=fracs_ne h hk hs;have hl:=h.len;refine⟨h.len,h.fits,h.small,h.ints,λr q hr=>?_⟩;have hlt:=(List.getElem?_eq_some_iff.1 hr).1;obtain⟨ad,e,h1,h2,h3⟩:=h.row r q hr;exact⟨ad,e,Nat.lt_of_lt_of_le h1 ho.1,(ho.2 _ (by rw [zan];exact h1) (by rw [zan];exact a om9 ad e)).trans h2,(ho.2 _ (by rw [zan];exact h1) (by rw [zan];exact a om9 ad e)).trans h3⟩
 nil w:=⟨rfl,Nat.le_refl _,de9,(λq hq=>by cases hq),(λr q hr=>by simp at hr)⟩
def zef (m:Nat)(L:List (Int×Int)):List (Int×Int):=(List.range m).map λj=>L.getD j (0,0)
theorem zcU (m:Nat)(L:List (Int×Int)):(zef m L).length=m:=by simp [zef]
theorem zlE {m j:Nat}(L:List (Int×Int))(h:j<m):(zef m L)[j]?=some (L.getD j (0,0)):=by
 unfold zef;rw [List.getElem?_map,List.getElem?_range h];rfl
theorem padL_set {m c:Nat}{L:List (Int×Int)}(hc:c<m)(hl:c<L.length):(zef m (L.take c)).set c (L.getD c (0,0))=zef m (L.take (c+1)):=by
 apply List.ext_getElem?;intro j;by_cases hj:j<m
 ·rw [zlE _ hj];by_cases h:c=j
  ·subst h;rw [List.getElem?_set_self (by rw [zcU];exact hc)];congr 1;rw [List.getD_eq_getElem?_getD,List.getD_eq_getElem?_getD,List.getElem?_take,if_pos om9]
  ·rw [List.getElem?_set_ne h,zlE _ hj];congr 1;rw [List.getD_eq_getElem?_getD,List.getD_eq_getElem?_getD,List.getElem?_take,List.getElem?_take];by_cases h2:j<c
   ·rw [if_pos h2,if_pos om9]
   ·rw [if_neg h2,if_neg om9]
 ·rw [List.getElem?_eq_none (by rw [List.length_set,zcU];omega),List.getElem?_eq_none (by rw [zcU];omega)]
theorem zky {m c:Nat}{L:List (Int×Int)}(h:c=m\/L.length<=c):zef m (L.take c)=zef m L:=by
 unfold zef;refine List.map_congr_left λj hj=>?_;have hj:=List.mem_range.1 hj;rcases h with h|h
 ·rw [List.getD_eq_getElem?_getD,List.getD_eq_getElem?_getD,List.getElem?_take,if_pos om9]
 ·rw [List.take_of_length_le h]
theorem zhI {m:Nat}{L:List (Int×Int)}(h:∀q ∈ L,zbm q.1/\zbm q.2):∀q ∈ zef m L,zbm q.1/\zbm q.2:=λq hq=>by
 obtain⟨j,hj,rfl⟩:=List.mem_map.1 hq;rw [List.getD_eq_getElem?_getD];cases e:L[j]? with
 |none=>exact⟨⟨de9,de9⟩,⟨de9,de9⟩⟩
 |some q=>exact h q (List.mem_of_getElem? e)
structure zgj (w:World)(g m:Nat)(L:List (Int×Int)):Prop where
 len:L.length=m
 blk:∃cs:Array Value,Blk w g 26 cs/\cs.size=m*2
 num:∀j q,L[j]?=some q->w.cell? ⟨g,j*2,none⟩=some (.int .i64 q.1)/\w.cell? ⟨g,j*2+1,none⟩=some (.int .i64 q.2)
theorem zgj.below {w w':World}{g m:Nat}{L:List (Int×Int)}(h:zgj w g m L)(hb:Below w.heap.size w w'):zgj w' g m L:=by
 refine⟨h.len,?_,λj q hj=>?_⟩
 ·obtain⟨cs,hk,h1⟩:=h.blk;exact⟨cs,zad hb hk,h1⟩
 ·obtain⟨h1,h2⟩:=h.num j q hj;exact⟨zae hb h1,zae hb h2⟩
theorem zgj.args {w:World}{g m:Nat}{L:List (Int×Int)}(h:zgj w g m L)(hi:∀q ∈ L,zbm q.1/\zbm q.2)(hm:m<=1048576):zaX w (some ⟨g,0,none⟩) m m L:=
 ⟨h.len,Nat.le_refl _,hm,hi,λr q hr=>by
  obtain⟨cs,hk,_⟩:=h.blk;obtain⟨h1,h2⟩:=h.num r q hr;exact⟨_,rfl,hk.lt,by rw [zaF];exact h1,by rw [zaF];exact h2⟩⟩
theorem zgj.ready {w:World}{g m:Nat}{L:List (Int×Int)}(h:zgj w g m L){i:Nat}(hi:i<m)(x:Value):∃a b:Value,w.cell? ⟨g,i*2,none⟩=some a/\w.frozen? ⟨g,i*2,none⟩=false/\(w.setCell ⟨g,i*2,none⟩ x).cell? ⟨g,i*2+1,none⟩=some b/\(w.setCell ⟨g,i*2,none⟩ x).frozen? ⟨g,i*2+1,none⟩=false:=by
 obtain⟨cs,hk,h2⟩:=h.blk;have c:=hk.set_ (i*2) x;have e0:i*2<cs.size:=om9;have e1:i*2+1<(cs.setIfInBounds (i*2) x).size:=by simp;omega
 exact⟨_,_,(hk.cell _).trans (Array.getElem?_eq_getElem e0),hk.frozen _,(c.cell _).trans (Array.getElem?_eq_getElem e1),c.frozen _⟩
theorem zgj.set_ {w:World}{g m:Nat}{L:List (Int×Int)}(h:zgj w g m L){i:Nat}(hi:i<m)(x y:Int):zgj ((w.setCell ⟨g,i*2,none⟩ (.int .i64 x)).setCell ⟨g,i*2+1,none⟩ (.int .i64 y)) g m (L.set i (x,y)):=by
 obtain⟨cs,hk,h2⟩:=h.blk;have hl:=h.len;have a:=(hk.set_ (i*2) (.int .i64 x)).set_ (i*2+1) (.int .i64 y);refine⟨by rw [List.length_set];exact h.len,⟨_,a,by simp;exact h2⟩,λj q hj=>?_⟩;by_cases hij:i=j
 ·subst hij;rw [List.getElem?_set_self om9] at hj;injection hj with hj;subst hj;refine⟨?_,?_⟩
  ·rw [a.cell,Array.getElem?_setIfInBounds_ne om9,Array.getElem?_setIfInBounds_self_of_lt om9]
  ·rw [a.cell,Array.getElem?_setIfInBounds_self_of_lt (by simp;omega)]
 ·rw [List.getElem?_set_ne hij] at hj;obtain⟨c1,c2⟩:=h.num j q hj;refine⟨?_,?_⟩
  ·rw [a.cell,Array.getElem?_setIfInBounds_ne om9,Array.getElem?_setIfInBounds_ne om9,<-hk.cell];exact c1
  ·rw [a.cell,Array.getElem?_setIfInBounds_ne om9,Array.getElem?_setIfInBounds_ne om9,<-hk.cell];exact c2
def znN:Array Value:=#[.int .i64 0,.int .i64 0]
theorem zgj.made (w:World)(n:Nat):zgj (w.alloc (.cells (madeCells znN (n*2)) 26)) w.heap.size n (zef n ([]:List (Int×Int))):=by
 have hk:=Blk.new w 26 (madeCells znN (n*2));refine⟨zcU _ _,⟨_,hk,size_madeCells _ _⟩,λi x hi=>?_⟩;have a:i<n:=by
  have:=(List.getElem?_eq_some_iff.1 hi).1;rwa [zcU] at this
 rw [zlE _ a] at hi;injection hi with hi;subst hi;have e0:(i*2)%2=0:=om9;have e1:(i*2+1)%2=1:=om9;refine⟨?_,?_⟩
 ·rw [hk.cell,zbJ _ _ _ om9,show znN.size=2 from rfl,e0];rfl
 ·rw [hk.cell,zbJ _ _ _ om9,show znN.size=2 from rfl,e1];rfl
theorem infoF11:(prog.info? 26).map (λi=>(i.zero,i.size,i.bytes))=some (some (.agg #[.int .i64 0,.int .i64 0]),2,16):=kr9
theorem infoFF11:(prog.info? 27).map (λi=>(i.zero,i.size,i.bytes))=some (some (.slice none 0 0),1,24):=kr9
theorem zos (n:Nat)(hn:n<=1048576):∃Z:Array Value,∀W:World,(Instr.makeSlice 27 (.int .i64 (n:Int)) (.int .i64 (n:Int))).run prog W=.ok (.slice (some ⟨W.heap.size,0,none⟩) n n) (W.alloc (.cells Z 26))/\zgj (W.alloc (.cells Z 26)) W.heap.size n (zef n ([]:List (Int×Int))):=by
 obtain⟨i0,a,b,c,d⟩:=info_parts infoF11;refine⟨madeCells znN (n*2),λW=>⟨?_,zgj.made W n⟩⟩;have h:=zaW (P:=prog) _ _ i0 _ underlying27 a b .i64 .i64 n n (Nat.le_refl _) (by rw [d];omega) om9 W;rw [c] at h;exact h
def zcR (m:Nat)(R:ziB)(k:Nat):List (List (Int×Int)):=(List.range k).map λi=>zef m (R i).2.2.2
theorem zga (m:Nat)(R:ziB)(k:Nat):(zcR m R k).length=k:=by simp [zcR]
theorem zok (m:Nat)(R:ziB)(k:Nat):zcR m R (k+1)=zcR m R k++[zef m (R k).2.2.2]:=by simp [zcR,List.range_succ]
def zjW (w:World)(n m:Nat)(Ls:List (List (Int×Int)))(e:Ending)(w':World):Prop:=∃(Q:oA9) (q:Nat),e=.returned (.tuple #[.slice Q n q,.int .i64 (m:Int)])/\zaJ zaX w' Q n Ls/\Below w.heap.size w w'
theorem zja {z:Nat}{A:oA9}{n c:Nat}{R:ziB}{w:World}(hz:z<=255)(h:zbj w A n c R):
  Calls prog 62 #[.agg #[.int .u8 (z:Int),.slice A n c]] w (zjW w (min n 6) (z%7) (zcR (z%7) R (min n 6))):=by
 obtain⟨i9,a7,a9,al,am⟩:=info_parts infoFF11;have hn0:n<=1048576:=Nat.le_trans h.fits h.small;obtain⟨m,hm⟩:∃m,z%7=m:=⟨_,rfl⟩;have hm6:m<=6:=om9;have ba:(z:Int)%7=(m:Int):=om9;have bk:(z:Int).tmod 7=(m:Int):=by rw [Int.tmod_eq_emod_of_nonneg om9];exact ba
 rw [hm];obtain⟨N,hN⟩:∃N,min n 6=N:=⟨_,rfl⟩;rw [hN];have hNn:N<=n:=om9;have hN6:N<=6:=om9;have T:N=n\/N=6:=om9;have HR:=up9 w (λw' hb k (hk:k<n)=>by
  obtain⟨ad,e,h1,h2,h3⟩:=h.row k hk;exact(⟨ad,e,zae hb h2,h3.below hb⟩:∃ad,A=some ad/\w'.cell? (ad.add k)=some (.slice (R k).1 (R k).2.1 (R k).2.2.1)/\zaX w' (R k).1 (R k).2.1 (R k).2.2.1 (R k).2.2.2))
 obtain⟨a2,au,bz⟩:=zaD w 24 #[.int .u8 (z:Int),.slice A n c];obtain⟨g0,g1⟩:=au.c2;obtain⟨Z,hZ⟩:=zos m om9;have hmk:=λW=>(hZ W).1;have aq:=lh9 (λW=>(hZ W).2);have hB:=a2;have hK:=au;clear a2 au bz h hZ hN hz;unfold zjW;have i0:(0:Int)<=(m:Int):=om9;go_enter func62,ntmps62;go_upto_region 3 with fail;clear hm ba bk g0 g1;go_wp2_with fail;generalize w.alloc (.cells #[.int .u8 (z:Int),.slice A n c] 24)=W1 at*
 go_loopg [5,6] (N+1) (λg sl ix wr=>∃(k:Nat) (v:Value) (vs:List Value),k<=N/\N<g+k/\ix=.int .i64 k/\v=sl/\zaN zaX wr (w.heap.size+1) 27 v (zcR m R k) vs/\Below w.heap.size w wr/\Blk wr w.heap.size 24 #[.int .u8 (z:Int),.slice A n c])
 case atStart=>exact⟨0,_,_,Nat.zero_le _,om9,rfl,rfl,zaN.nil _ _ _,hB,hK⟩
 case round=>
  clear hB hK;obtain⟨k,v,vs,hkN,hg,rfl,rfl,U,hB,hK⟩:=hrel;obtain⟨wo,bj⟩:∃wo,wo=wr:=⟨_,rfl⟩;subst bj;obtain⟨g0,g1⟩:=hK.c2;by_cases hlt:k<N
  ·have ax:k<n:=om9;have aw:decide ((k:Int)<(n:Int))=true:=decide_eq_true om9;have af:decide (k<n)=true:=decide_eq_true ax;have bf:decide ((k:Int)<6)=true:=decide_eq_true om9;have a3:decide (k<6)=true:=decide_eq_true om9;have i2:(0:Int)<=(k:Int):=om9;have i3:(k:Int)<(n:Int):=om9;have S:Hid ((zcR m R k).length=k):=zga _ _ _;have aj:Hid (zcR m R (k+1)=zcR m R k++[zef m (R k).2.2.2]):=zok _ _ _;have ak:=lh9 (λw' hb=>HR.out w' hb k ax);obtain⟨q,hq⟩:∃q,R k=q:=⟨_,rfl⟩;rw [hq] at aj ak;obtain⟨Ak,nk,ck,Lk⟩:=q;dsimp only at aj ak;clear hq;obtain⟨ad,rfl,be,I⟩:=ak.out wo hB;have az:=lh9 I.ints;have ap:=lh9 I.len;have hnk:nk<=1048576:=Nat.le_trans I.fits I.small;have HB:=lh9 hB;have a1:=lh9 U;have HK:=lh9 hK;clear U hB hK I be;go_wp2_with fail;have i:=aq.out wo;have f:Below wo.heap.size wo (wo.alloc (.cells Z 26)):=(Below.refl _ wo).alloc (Nat.le_refl _) _;have i:zgj (wo.alloc (.cells Z 26)) wo.heap.size m (zef m (Lk.take 0)):=i;obtain⟨gr,a6⟩:∃g,wo.heap.size=g:=⟨_,rfl⟩;have a8:wo.heap.size<=gr:=om9;rw [a6] at i⊢;generalize wo.alloc (.cells Z 26)=W2 at*;clear a6 g0 g1
   go_loopg [8] (m+1) (λg jx wr=>∃(j:Nat),j<=m/\j<=nk/\m<g+j/\jx=.int .i64 j/\zgj wr gr m (zef m (Lk.take j))/\Below wo.heap.size wo wr)
   case atStart=>exact⟨0,Nat.zero_le _,Nat.zero_le _,om9,rfl,i,f⟩
   case round=>
    clear i f;obtain⟨j,hjm,hjn,hg2,rfl,i,f⟩:=hrel;obtain⟨p0,p1⟩:=(zad f HK.out).c2;by_cases hjl:j<m
    ·have bg:decide ((j:Int)<(m:Int))=true:=decide_eq_true om9;have a4:decide (j<m)=true:=decide_eq_true hjl;obtain⟨bd,e2,hc,I⟩:=ak.out wr (zac HB.out f);obtain rfl:ad=bd:=by injection e2
     clear e2;by_cases hjk:j<nk
     ·have bh:decide ((j:Int)<(nk:Int))=true:=decide_eq_true om9;have a5:decide (j<nk)=true:=decide_eq_true hjk;obtain⟨ae,rfl,hae,bi,ay⟩:=I.row j _ (zcd (d:=(0,0)) (by have:=ap.out;omega));have ay:=zfX ay;have P:(zef m (Lk.take j)).set j ((Lk.getD j (0,0)).1,(Lk.getD j (0,0)).2)=zef m (Lk.take (j+1)):=padL_set hjl (by have:=ap.out;omega);obtain⟨x,hx⟩:∃x,(Lk.getD j (0,0)).1=x:=⟨_,rfl⟩;obtain⟨y,hy⟩:∃y,(Lk.getD j (0,0)).2=y:=⟨_,rfl⟩;rw [hx] at bi P;rw [hy] at ay P;have i4:(0:Int)<=(j:Int):=om9;have i5:(j:Int)<(m:Int):=om9;have i6:(j:Int)<(nk:Int):=om9;have ag:=i.set_ hjl x y;rw [P] at ag;obtain⟨q0,q1,sc0,sf0,sc1,sf1⟩:=i.ready hjl (.int .i64 x);have a0:=lh9 ag;have bb:=lh9 (zag (p:=⟨gr,j*2+1,none⟩) (.int .i64 y) a8 (zag (p:=⟨gr,j*2,none⟩) (.int .i64 x) a8 f));clear i ag f I P hx hy;go_wp2;go_roundg (m - j)
      case measure=>omega
      case rel=>exact⟨j+1,om9,om9,om9,by go_num,a0.out,bb.out⟩
     ·have bh:decide ((j:Int)<(nk:Int))=false:=decide_eq_false om9;have a5:decide (j<nk)=false:=decide_eq_false hjk;have i5:(k:Int)<(n:Int):=om9;have t:j=m\/Lk.length<=j:=Or.inr (by have:=ap.out;omega);have ah:=zky (m:=m) (L:=Lk) (c:=j) t;have V:=lh9 ((ah▸i).args (zhI az.out) om9);have l:=lh9 (zac HB.out f);have F:=lh9 (a1.out.below zdE f);obtain⟨t1,t2,-⟩:=zaD wr 27 #[.slice (some ⟨gr,0,none⟩) m m];have M:=lh9 (zac l.out t1);have b:=lh9 (F.out.below zdE t1);have E:=lh9 (V.out.below t1);have C:=b.out.own;rw [S.out] at C;have H:=lh9 C;have ab:=lh9 b.out.sl;have o:=lh9 (zaQ wr (.slice (some ⟨gr,0,none⟩) m m) 27);have X:=lh9 M.out.size;have O:=lh9 (λr (h:v.ownBlock=some r)=>b.out.own.lt r h);have ac:Hid (∀u ∈(Value.slice none 0 0).cells.toList,zbf u):=by intro u hu;simp [Value.cells] at hu;exact⟨_,_,_,hu⟩
      have Y:Hid (∀u ∈ [Value.slice (some ⟨gr,0,none⟩) m m],zbf u):=by intro u hu;simp at hu;exact⟨_,_,_,hu⟩
      have G:Hid (∀u ∈ [Value.slice (some ⟨gr,0,none⟩) m m],u.oneCell'=true):=by intro u hu;simp at hu;subst hu;rfl
      have s:=lh9 (zad t1 (zad f HK.out));have bc:Hid (Below w.heap.size w wr):=l.out;obtain⟨p0,p1⟩:=(zad f HK.out).c2;clear f i t1 t2 C ah t V l F;go_wp2_with (at_builtin;go_loud (refine zbv _ rfl (.tmp 52) (.tmp 54) 22 rfl (w.heap.size+1) 27 i9 (.slice none 0 0) 1 24 underlying22 a7 a9 al am rfl de9 v k vs rfl H.out ⟨wr.heap.size,0,none⟩ 1 1 [.slice (some ⟨gr,0,none⟩) m m] rfl rfl o.out G.out (by unfold maxLen;omega) om9 (s.out.lt) ab.out ac.out Y.out ?_;intro v' w8 D a av K));have B:=zaN.grow (n:=k+1) (L:=zef m Lk) zdE b.out E.out (zcU _ _) D (by rw [S.out]) a K;rw [<-aj.out] at B;have aa:=lh9 B;have an:=lh9 (M.out.grown a X.out (λr hr=>by have:=(O.out r hr).1;omega));have ao:Hid (Blk w8 w.heap.size 24 #[.int .u8 (z:Int),.slice (some ad) n c]):=zaC s.out a (λe=>by have:=(O.out _ e).1;omega);clear B D a av K b E H ab o X O ac Y G M s p0 p1;go_wp2;go_roundg (N - k)
      case measure=>omega
      case rel=>exact⟨k+1,_,_,om9,om9,by go_num,rfl,aa.out,an.out,ao.out⟩
    ·have bg:decide ((j:Int)<(m:Int))=false:=decide_eq_false om9;have a4:decide (j<m)=false:=decide_eq_false hjl;have t:j=m\/Lk.length<=j:=Or.inl om9;have ah:=zky (m:=m) (L:=Lk) (c:=j) t;have V:=lh9 ((ah▸i).args (zhI az.out) om9);have l:=lh9 (zac HB.out f);have F:=lh9 (a1.out.below zdE f);obtain⟨t1,t2,-⟩:=zaD wr 27 #[.slice (some ⟨gr,0,none⟩) m m];have M:=lh9 (zac l.out t1);have b:=lh9 (F.out.below zdE t1);have E:=lh9 (V.out.below t1);have C:=b.out.own;rw [S.out] at C;have H:=lh9 C;have ab:=lh9 b.out.sl;have o:=lh9 (zaQ wr (.slice (some ⟨gr,0,none⟩) m m) 27);have X:=lh9 M.out.size;have O:=lh9 (λr (h:v.ownBlock=some r)=>b.out.own.lt r h);have ac:Hid (∀u ∈(Value.slice none 0 0).cells.toList,zbf u):=by intro u hu;simp [Value.cells] at hu;exact⟨_,_,_,hu⟩
     have Y:Hid (∀u ∈ [Value.slice (some ⟨gr,0,none⟩) m m],zbf u):=by intro u hu;simp at hu;exact⟨_,_,_,hu⟩
     have G:Hid (∀u ∈ [Value.slice (some ⟨gr,0,none⟩) m m],u.oneCell'=true):=by intro u hu;simp at hu;subst hu;rfl
     have s:=lh9 (zad t1 (zad f HK.out));have bc:Hid (Below w.heap.size w wr):=l.out;obtain⟨p0,p1⟩:=(zad f HK.out).c2;clear f i t1 t2 C ah t V l F;go_wp2_with (at_builtin;go_loud (refine zbv _ rfl (.tmp 52) (.tmp 54) 22 rfl (w.heap.size+1) 27 i9 (.slice none 0 0) 1 24 underlying22 a7 a9 al am rfl de9 v k vs rfl H.out ⟨wr.heap.size,0,none⟩ 1 1 [.slice (some ⟨gr,0,none⟩) m m] rfl rfl o.out G.out (by unfold maxLen;omega) om9 (s.out.lt) ab.out ac.out Y.out ?_;intro v' w8 D a av K));have B:=zaN.grow (n:=k+1) (L:=zef m Lk) zdE b.out E.out (zcU _ _) D (by rw [S.out]) a K;rw [<-aj.out] at B;have aa:=lh9 B;have an:=lh9 (M.out.grown a X.out (λr hr=>by have:=(O.out r hr).1;omega));have ao:Hid (Blk w8 w.heap.size 24 #[.int .u8 (z:Int),.slice (some ad) n c]):=zaC s.out a (λe=>by have:=(O.out _ e).1;omega);clear B D a av K b E H ab o X O ac Y G M s p0 p1;go_wp2;go_roundg (N - k)
     case measure=>omega
     case rel=>exact⟨k+1,_,_,om9,om9,by go_num,rfl,aa.out,an.out,ao.out⟩
  ·have J:k=N:=om9;have S:Hid ((zcR m R k).length=N):=by rw [J];exact zga _ _ _
   obtain⟨Q,q,rfl,hq1,hq2,ai,-⟩:=U.shape S.out;rw [J] at ai;have ar:=lh9 ai;have l:=lh9 hB;rcases T with T|T
   ·have aw:decide ((k:Int)<(n:Int))=false:=decide_eq_false om9;have af:decide (k<n)=false:=decide_eq_false om9;clear U hB hK ai J hlt T;go_wp2
    go_ret2
    exact⟨Q,q,rfl,ar.out,l.out⟩
   ·have bf:decide ((k:Int)<6)=false:=decide_eq_false om9;have a3:decide (k<6)=false:=decide_eq_false om9;by_cases ax:k<n
    ·have aw:decide ((k:Int)<(n:Int))=true:=decide_eq_true om9;have af:decide (k<n)=true:=decide_eq_true om9;clear U hB hK ai J hlt T;go_wp2
     go_ret2
     exact⟨Q,q,rfl,ar.out,l.out⟩
    ·have aw:decide ((k:Int)<(n:Int))=false:=decide_eq_false om9;have af:decide (k<n)=false:=decide_eq_false om9;clear U hB hK ai J hlt T;go_wp2
     go_ret2
     exact⟨Q,q,rfl,ar.out,l.out⟩
def zgl (m:Nat)(R:ziB)(k:Nat):List (List Rat):=(zcR m R k).map zcr
theorem zgA (m:Nat)(R:ziB)(k:Nat):zbG (zgl m R k) k m:=⟨by simp [zgl,zcR],λL hL=>by
 obtain⟨q,hq,rfl⟩:=List.mem_map.1 hL;obtain⟨i,hi,rfl⟩:=List.mem_map.1 hq;rw [zcI,zcU]⟩
theorem zmA {W:World}{A:oA9}{n c m k:Nat}{R:ziB}(h:zbj W A n c R)(hk:k<=n):zay 1 (zgl m R k):=λL hL x hx=>by
 obtain⟨q,hq,rfl⟩:=List.mem_map.1 hL;obtain⟨i,hi,rfl⟩:=List.mem_map.1 hq;obtain⟨p,hp,rfl⟩:=List.mem_map.1 hx;obtain⟨ad,e,_,_,h3⟩:=h.row i (by have:=List.mem_range.1 hi;omega);obtain⟨⟨h4,h5⟩,h6,h7⟩:=zhI (m:=m) h3.ints p hp;exact zoG h4 h5 h6 h7
theorem zop {z:Nat}{A:oA9}{n c:Nat}{R:ziB}{w:World}(hT:zam w)(hz:z<=255)(h:zbj w A n c R):
  Calls prog 11 #[.agg #[.int .u8 (z:Int),.slice A n c]] w (zbw w (min n 6) (z%7) (zgl (z%7) R (min n 6))):=by
 obtain⟨i9,a0,a4,aq,ar⟩:=info_parts zeq;have HZ:=lh9 (zmA (m:=z%7) h (Nat.min_le_left n 6));have HD:=lh9 (zgA (z%7) R (min n 6));have HI:Hid (∀k,k<min n 6->zbm 0/\(zcR (z%7) R (min n 6)).getD k []=zef (z%7) (R k).2.2.2):=λk hk=>⟨⟨de9,de9⟩,by
  unfold zcR;rw [List.getD_eq_getElem?_getD,List.getElem?_map,List.getElem?_range hk];rfl⟩
 have a:=lh9 (λW (hb:Below w.heap.size w W)=>zja hz (show zbj W A n c R from⟨h.fits,h.small,λr hr=>by
  obtain⟨ad,e,h1,h2,h3⟩:=h.row r hr;exact⟨ad,e,Nat.lt_of_lt_of_le h1 hb.size,zae hb h2,h3.below hb⟩⟩))
 obtain⟨m,hm⟩:∃m,z%7=m:=⟨_,rfl⟩;obtain⟨N,hN⟩:∃N,min n 6=N:=⟨_,rfl⟩;have hm6:m<=6:=om9;have hN6:N<=6:=om9;rw [hm,hN] at HZ HD HI a⊢;have HT:=up9 w (λw' hb=>hT.on hb);have l:Hid ((zcR m R N).length=N):=zga _ _ _;obtain⟨G,hG⟩:∃G,zcR m R N=G:=⟨_,rfl⟩;have ai:zgl m R N=G.map zcr:=by unfold zgl;rw [hG]
 rw [hG] at HI a l;rw [ai] at HZ HD⊢;have P:Hid (∀k,k<N->(G.getD k []).length=m):=λk hk=>by rw [(HI.out k hk).2,zcU]
 have ax:Hid (∀k,k<N->(G.take (k+1)).map zcr=(G.take k).map zcr++[zcr (G.getD k [])]):=λk hk=>by
  have hl:=l.out;rw [List.take_succ_eq_append_getElem om9,List.map_append,List.getD_eq_getElem?_getD,List.getElem?_eq_getElem om9];rfl
 obtain⟨ae,af,ag,bz⟩:=zbg w 24 32 #[.int .u8 (z:Int),.slice A n c] #[.slice none 0 0,.int .i64 0];obtain⟨g0,g1⟩:=af.c2;have HB:=lh9 ae;have HK:=lh9 ag;clear h hT hz hm hN hG ai ae af ag bz HI;unfold zbw;go_enter func11,ntmps11;go_wp2_with fail;(with_reducible refine(a.out _ HB.out).mono ?_);rintro e w1 ⟨Q,q,rfl,ap,hb⟩;have M:=lh9 (zac HB.out hb);have av:=lh9 (zad hb HK.out);have aw:=lh9 ap;have ah:=Below.refl w1.heap.size w1;clear hb ap HB HK g0 g1 a;go_wp2_with fail
 go_loopg [5,6] (N+1) (λg sl ix wr=>∃(k:Nat) (v:Value) (vs:List Value),k<=N/\N<g+k/\ix=.int .i64 k/\v=sl/\zaN (zaE zak) wr w1.heap.size 71 v ((G.take k).map zcr) vs/\Below w1.heap.size w1 wr)
 case atStart=>exact⟨0,_,_,Nat.zero_le _,om9,rfl,rfl,zaN.nil _ _ _,ah⟩
 case round=>
  clear ah;obtain⟨k,v,vs,hkN,hg,rfl,rfl,o,i⟩:=hrel;by_cases hlt:k<N
  ·obtain⟨ad,B,d,rfl,-,hc,ha⟩:=aw.out.get zdE i hlt (P.out k hlt);have az:decide ((k:Int)<(N:Int))=true:=decide_eq_true om9;have i1:(0:Int)<=(k:Int):=om9;have i2:(k:Int)<(N:Int):=om9;have Z:=lh9 (ax.out k hlt);have O:=lh9 (P.out k hlt);obtain⟨Lk,aj⟩:∃L,G.getD k []=L:=⟨_,rfl⟩;rw [aj] at ha Z O;have Y:Hid (((G.take k).map zcr).length=k):=by show _=_;rw [List.length_map,List.length_take];have:=l.out;omega
   have HA:=lh9 ha;have U:=lh9 o;have H:=lh9 i;clear aj ha o i;go_wp2_with fail;(with_reducible refine(zgB (HT.out _ (zac M.out H.out)) HA.out).mono ?_);rintro e w5 ⟨A5,c5,rfl,hv5,-,hb⟩;obtain⟨t1,t2,-⟩:=zaD w5 71 #[.slice A5 m c5];have K:=zac hb t1;have b:=lh9 (U.out.below (zaq zas) K);have ab:=lh9 (zaL.keep hv5 t1);have F:=lh9 (zac H.out K);have s:=b.out.own;rw [Y.out] at s;have C:=lh9 s;have aa:=lh9 b.out.sl;have j:=lh9 (zaQ w5 (.slice A5 m c5) 71);have I:=lh9 F.out.size;have T:=lh9 (λr (h:v.ownBlock=some r)=>b.out.own.lt r h);have ac:Hid (∀u ∈(Value.slice none 0 0).cells.toList,zbf u):=by intro u hu;simp [Value.cells] at hu;exact⟨_,_,_,hu⟩
   have S:Hid (∀u ∈ [Value.slice A5 m c5],zbf u):=by intro u hu;simp at hu;exact⟨_,_,_,hu⟩
   have y:Hid (∀u ∈ [Value.slice A5 m c5],u.oneCell'=true):=by intro u hu;simp at hu;subst hu;rfl
   clear hb hv5 t1 t2 K s hc U H HA;go_wp2_with (at_builtin;go_loud (refine zbv _ rfl (.tmp 20) (.tmp 26) 30 rfl w1.heap.size 71 i9 (.slice none 0 0) 1 24 underlying30 a0 a4 aq ar rfl de9 v k vs rfl C.out ⟨w5.heap.size,0,none⟩ 1 1 [.slice A5 m c5] rfl rfl j.out y.out (by unfold maxLen;omega) om9 I.out aa.out ac.out S.out ?_;intro v' w8 t f ay D));have p:=zaN.grow (n:=k+1) (L:=zcr Lk) (zaq zas) b.out ab.out (by rw [zcI];exact O.out) t (by rw [Y.out]) f D;rw [<-Z.out] at p;have V:=lh9 p;have au:=lh9 (F.out.grown f I.out (λr hr=>(T.out r hr).1));clear p t f ay D b ab C aa j I T ac S y F;go_wp2;go_roundg (N - k)
   case measure=>omega
   case rel=>exact⟨k+1,_,_,om9,om9,by go_num,rfl,V.out,au.out⟩
  ·have hk:k=N:=om9;subst hk;have az:decide ((k:Int)<(k:Int))=false:=si9;rw [List.take_of_length_le (by have:=l.out;omega)] at o;obtain⟨Q5,q5,rfl,a2,a3,ao,-⟩:=o.shape (n:=k) (by rw [List.length_map];exact l.out);have X:=lh9 ao;have E:=lh9 (zac M.out i);have J:=lh9 (zad i av.out);clear o i ao a2 a3;go_wp2_with fail;(with_reducible refine(zlv (HT.out _ E.out) X.out HD.out om9 om9 HZ.out de9).mono ?_);rintro e w7 ⟨A7,c7,rfl,am,al,hb⟩;obtain⟨t1,t2,-⟩:=zaD w7 32 #[.slice A7 k c7,.int .i64 (m:Int)];have x:=zad t1 (zad hb J.out);have a1:=J.out.lt;have an:=am.keep t1;have ak:=zac E.out (zac hb t1);obtain⟨p0,p1⟩:=t2.c2;obtain⟨sc0,sf0,sc1,sf1⟩:=st2 x (.slice A7 k c7);obtain⟨r0,r1⟩:=(sn2 x (.slice A7 k c7) (.int .i64 (m:Int))).c2;have HG:=lh9 (gm2 an (λad e=>Nat.lt_of_lt_of_le a1 (al ad e)) x ak om9);unfold zbw at HG;clear t1 t2 x an ak am al hb X E J;go_wp2;refine bodyPost_ret (v:=.agg #[.slice A7 k c7,.int .i64 (m:Int)]) (by simp [results,results11,go_sem,r0,r1]) rfl ?_;exact HG.out
