/- What this claim leans on. -/
import Derived.Test.YtghpdeciaaagnaaGreatDoorQMClos
namespace Go.Proofs.YtghpdeciaaagnaaGreatDoor
open Go Go.RowKit Go.Proofs.Tryz
set_option maxHeartbeats 16000000
set_option maxRecDepth 100000
set_option linter.unusedVariables false
set_option linter.unusedSimpArgs false
theorem fracs_ne {w:World}{A:oA9}{n c g:Nat}{L:List (Int×Int)}{t:TypeId}{cs:Array Value}(h:zbs w A n c L)(hk:Blk w g t cs)(hs:∀u ∈ cs.toList,zcv u):0<n->∀ad,A=some ad->ad.block≠g:=λhn a e0 hg=>by
 have hl:=h.len;have h0:0<L.length:=om9;obtain⟨ad,e,h1,h2,h3⟩:=h.row 0 _ (List.getElem?_eq_getElem h0);obtain rfl:a=ad:=by rw [e0] at e;injection e
 have hb:(a.add (0*2)).block=g:=by rw [zah];exact hg
 generalize a.add (0*2)=q at hb h2;obtain⟨bk,off,pr⟩:=q;simp only at hb;subst hb;unfold Blk at hk;cases pr with
 |none=>
   rw [show w.cell? ⟨bk,off,none⟩=cs[off]? from cell_of_row w bk off _ t (0,0) hk,<-Array.getElem?_toList] at h2;obtain⟨A9,n9,c9,e9⟩:=hs _ (List.mem_of_getElem? h2);cases e9
 |some q=>simp [World.cell?,hk] at h2
theorem zej:zcf zbs where
 len h:=h.len
 below h hb:=h.below hb
 offS h hk hs ho:=by
  have a:=fracs_ne h hk hs;have hl:=h.len;refine⟨h.len,h.fits,h.small,h.ints,λr q hr=>?_⟩;have hlt:=(List.getElem?_eq_some_iff.1 hr).1;obtain⟨ad,e,h1,h2,h3⟩:=h.row r q hr;exact⟨ad,e,Nat.lt_of_lt_of_le h1 ho.1,(ho.2 _ (by rw [zah];exact h1) (by rw [zah];exact a om9 ad e)).trans h2,(ho.2 _ (by rw [zah];exact h1) (by rw [zah];exact a om9 ad e)).trans h3⟩
 nil w:=⟨rfl,Nat.le_refl _,de9,(λq hq=>by cases hq),(λr q hr=>by simp at hr)⟩
def zet (m:Nat)(L:List (Int×Int)):List (Int×Int):=(List.range m).map λj=>L.getD j (0,0)
theorem zdk (m:Nat)(L:List (Int×Int)):(zet m L).length=m:=by simp [zet]
theorem zlF {m j:Nat}(L:List (Int×Int))(h:j<m):(zet m L)[j]?=some (L.getD j (0,0)):=by
 unfold zet;rw [List.getElem?_map,List.getElem?_range h];rfl
theorem padL_set {m c:Nat}{L:List (Int×Int)}(hc:c<m)(hl:c<L.length):(zet m (L.take c)).set c (L.getD c (0,0))=zet m (L.take (c+1)):=by
 apply List.ext_getElem?;intro j;by_cases hj:j<m
 ·rw [zlF _ hj];by_cases h:c=j
  ·subst h;rw [List.getElem?_set_self (by rw [zdk];exact hc)];congr 1;rw [List.getD_eq_getElem?_getD,List.getD_eq_getElem?_getD,List.getElem?_take,if_pos om9]
  ·rw [List.getElem?_set_ne h,zlF _ hj];congr 1;rw [List.getD_eq_getElem?_getD,List.getD_eq_getElem?_getD,List.getElem?_take,List.getElem?_take];by_cases h2:j<c
   ·rw [if_pos h2,if_pos om9]
   ·rw [if_neg h2,if_neg om9]
 ·rw [List.getElem?_eq_none (by rw [List.length_set,zdk];omega),List.getElem?_eq_none (by rw [zdk];omega)]
theorem zkJ {m c:Nat}{L:List (Int×Int)}(h:c=m\/L.length<=c):zet m (L.take c)=zet m L:=by
 unfold zet;refine List.map_congr_left λj hj=>?_;have hj:=List.mem_range.1 hj;rcases h with h|h
 ·rw [List.getD_eq_getElem?_getD,List.getD_eq_getElem?_getD,List.getElem?_take,if_pos om9]
 ·rw [List.take_of_length_le h]
theorem zhW {m:Nat}{L:List (Int×Int)}(h:∀q ∈ L,zcK q.1/\zcK q.2):∀q ∈ zet m L,zcK q.1/\zcK q.2:=λq hq=>by
 obtain⟨j,hj,rfl⟩:=List.mem_map.1 hq;rw [List.getD_eq_getElem?_getD];cases e:L[j]? with
 |none=>exact⟨⟨de9,de9⟩,⟨de9,de9⟩⟩
 |some q=>exact h q (List.mem_of_getElem? e)
structure zgz (w:World)(g m:Nat)(L:List (Int×Int)):Prop where
 len:L.length=m
 blk:∃cs:Array Value,Blk w g 127 cs/\cs.size=m*2
 num:∀j q,L[j]?=some q->w.cell? ⟨g,j*2,none⟩=some (.int .i64 q.1)/\w.cell? ⟨g,j*2+1,none⟩=some (.int .i64 q.2)
theorem zgz.below {w w':World}{g m:Nat}{L:List (Int×Int)}(h:zgz w g m L)(hb:Below w.heap.size w w'):zgz w' g m L:=by
 refine⟨h.len,?_,λj q hj=>?_⟩
 ·obtain⟨cs,hk,h1⟩:=h.blk;exact⟨cs,zab hb hk,h1⟩
 ·obtain⟨h1,h2⟩:=h.num j q hj;exact⟨zac hb h1,zac hb h2⟩
theorem zgz.args {w:World}{g m:Nat}{L:List (Int×Int)}(h:zgz w g m L)(hi:∀q ∈ L,zcK q.1/\zcK q.2)(hm:m<=1048576):zbs w (some ⟨g,0,none⟩) m m L:=
 ⟨h.len,Nat.le_refl _,hm,hi,λr q hr=>by
  obtain⟨cs,hk,_⟩:=h.blk;obtain⟨h1,h2⟩:=h.num r q hr;exact⟨_,rfl,hk.lt,by rw [zar];exact h1,by rw [zar];exact h2⟩⟩
theorem zgz.ready {w:World}{g m:Nat}{L:List (Int×Int)}(h:zgz w g m L){i:Nat}(hi:i<m)(x:Value):∃a b:Value,w.cell? ⟨g,i*2,none⟩=some a/\w.frozen? ⟨g,i*2,none⟩=false/\(w.setCell ⟨g,i*2,none⟩ x).cell? ⟨g,i*2+1,none⟩=some b/\(w.setCell ⟨g,i*2,none⟩ x).frozen? ⟨g,i*2+1,none⟩=false:=by
 obtain⟨cs,hk,h2⟩:=h.blk;have c:=hk.set_ (i*2) x;have e0:i*2<cs.size:=om9;have e1:i*2+1<(cs.setIfInBounds (i*2) x).size:=by simp;omega
 exact⟨_,_,(hk.cell _).trans (Array.getElem?_eq_getElem e0),hk.frozen _,(c.cell _).trans (Array.getElem?_eq_getElem e1),c.frozen _⟩
theorem zgz.set_ {w:World}{g m:Nat}{L:List (Int×Int)}(h:zgz w g m L){i:Nat}(hi:i<m)(x y:Int):zgz ((w.setCell ⟨g,i*2,none⟩ (.int .i64 x)).setCell ⟨g,i*2+1,none⟩ (.int .i64 y)) g m (L.set i (x,y)):=by
 obtain⟨cs,hk,h2⟩:=h.blk;have hl:=h.len;have a:=(hk.set_ (i*2) (.int .i64 x)).set_ (i*2+1) (.int .i64 y);refine⟨by rw [List.length_set];exact h.len,⟨_,a,by simp;exact h2⟩,λj q hj=>?_⟩;by_cases hij:i=j
 ·subst hij;rw [List.getElem?_set_self om9] at hj;injection hj with hj;subst hj;refine⟨?_,?_⟩
  ·rw [a.cell,Array.getElem?_setIfInBounds_ne om9,Array.getElem?_setIfInBounds_self_of_lt om9]
  ·rw [a.cell,Array.getElem?_setIfInBounds_self_of_lt (by simp;omega)]
 ·rw [List.getElem?_set_ne hij] at hj;obtain⟨c1,c2⟩:=h.num j q hj;refine⟨?_,?_⟩
  ·rw [a.cell,Array.getElem?_setIfInBounds_ne om9,Array.getElem?_setIfInBounds_ne om9,<-hk.cell];exact c1
  ·rw [a.cell,Array.getElem?_setIfInBounds_ne om9,Array.getElem?_setIfInBounds_ne om9,<-hk.cell];exact c2
def znM:Array Value:=#[.int .i64 0,.int .i64 0]
theorem zgz.made (w:World)(n:Nat):zgz (w.alloc (.cells (madeCells znM (n*2)) 127)) w.heap.size n (zet n ([]:List (Int×Int))):=by
 have hk:=Blk.new w 127 (madeCells znM (n*2));refine⟨zdk _ _,⟨_,hk,size_madeCells _ _⟩,λi x hi=>?_⟩;have a:i<n:=by
  have:=(List.getElem?_eq_some_iff.1 hi).1;rwa [zdk] at this
 rw [zlF _ a] at hi;injection hi with hi;subst hi;have e0:(i*2)%2=0:=om9;have e1:(i*2+1)%2=1:=om9;refine⟨?_,?_⟩
 ·rw [hk.cell,zbI _ _ _ om9,show znM.size=2 from rfl,e0];rfl
 ·rw [hk.cell,zbI _ _ _ om9,show znM.size=2 from rfl,e1];rfl
theorem infoF11:(prog.info? 127).map (λi=>(i.zero,i.size,i.bytes))=some (some (.agg #[.int .i64 0,.int .i64 0]),2,16):=kr9
theorem infoFF11:(prog.info? 57).map (λi=>(i.zero,i.size,i.bytes))=some (some (.slice none 0 0),1,24):=kr9
theorem zoy (n:Nat)(hn:n<=1048576):∃Z:Array Value,∀W:World,(Instr.makeSlice 57 (.int .i64 (n:Int)) (.int .i64 (n:Int))).run prog W=.ok (.slice (some ⟨W.heap.size,0,none⟩) n n) (W.alloc (.cells Z 127))/\zgz (W.alloc (.cells Z 127)) W.heap.size n (zet n ([]:List (Int×Int))):=by
 obtain⟨i0,a,b,c,d⟩:=info_parts infoF11;refine⟨madeCells znM (n*2),λW=>⟨?_,zgz.made W n⟩⟩;have h:=zbf (P:=prog) _ _ i0 _ underlying57 a b .i64 .i64 n n (Nat.le_refl _) (by rw [d];omega) om9 W;rw [c] at h;exact h
def zdH (m:Nat)(R:ziV)(k:Nat):List (List (Int×Int)):=(List.range k).map λi=>zet m (R i).2.2.2
theorem zhQ (m:Nat)(R:ziV)(k:Nat):(zdH m R k).length=k:=by simp [zdH]
theorem zol (m:Nat)(R:ziV)(k:Nat):zdH m R (k+1)=zdH m R k++[zet m (R k).2.2.2]:=by simp [zdH,List.range_succ]
def zkl (w:World)(n m:Nat)(Ls:List (List (Int×Int)))(e:Ending)(w':World):Prop:=∃(Q:oA9) (q:Nat),e=.returned (.tuple #[.slice Q n q,.int .i64 (m:Int)])/\zaC zbs w' Q n Ls/\Below w.heap.size w w'
theorem zoq {z:Nat}{A:oA9}{n c:Nat}{R:ziV}{w:World}(hz:z<=255)(h:zbc w A n c R):
  Calls prog 63 #[.agg #[.int .u8 (z:Int),.slice A n c]] w (zkl w (min n 6) (z%7) (zdH (z%7) R (min n 6))):=by
 obtain⟨i9,a7,a9,al,am⟩:=info_parts infoFF11;have hn0:n<=1048576:=Nat.le_trans h.fits h.small;obtain⟨m,hm⟩:∃m,z%7=m:=⟨_,rfl⟩;have hm6:m<=6:=om9;have ba:(z:Int)%7=(m:Int):=om9;have bk:(z:Int).tmod 7=(m:Int):=by rw [Int.tmod_eq_emod_of_nonneg om9];exact ba
 rw [hm];obtain⟨N,hN⟩:∃N,min n 6=N:=⟨_,rfl⟩;rw [hN];have hNn:N<=n:=om9;have hN6:N<=6:=om9;have T:N=n\/N=6:=om9;have HR:=up9 w (λw' hb k (hk:k<n)=>by
  obtain⟨ad,e,h1,h2,h3⟩:=h.row k hk;exact(⟨ad,e,zac hb h2,h3.below hb⟩:∃ad,A=some ad/\w'.cell? (ad.add k)=some (.slice (R k).1 (R k).2.1 (R k).2.2.1)/\zbs w' (R k).1 (R k).2.1 (R k).2.2.1 (R k).2.2.2))
 obtain⟨a2,au,bz⟩:=zax w 24 #[.int .u8 (z:Int),.slice A n c];obtain⟨g0,g1⟩:=au.c2;obtain⟨Z,hZ⟩:=zoy m om9;have hmk:=λW=>(hZ W).1;have aq:=lh9 (λW=>(hZ W).2);have hB:=a2;have hK:=au;clear a2 au bz h hZ hN hz;unfold zkl;have i0:(0:Int)<=(m:Int):=om9;go_enter func63,ntmps63;go_upto_region 3 with fail;clear hm ba bk g0 g1;go_wp2_with fail;generalize w.alloc (.cells #[.int .u8 (z:Int),.slice A n c] 24)=W1 at*
 go_loopg [5,6] (N+1) (λg sl ix wr=>∃(k:Nat) (v:Value) (vs:List Value),k<=N/\N<g+k/\ix=.int .i64 k/\v=sl/\zbN zbs wr (w.heap.size+1) 57 v (zdH m R k) vs/\Below w.heap.size w wr/\Blk wr w.heap.size 24 #[.int .u8 (z:Int),.slice A n c])
 case atStart=>exact⟨0,_,_,Nat.zero_le _,om9,rfl,rfl,zbN.nil _ _ _,hB,hK⟩
 case round=>
  clear hB hK;obtain⟨k,v,vs,hkN,hg,rfl,rfl,U,hB,hK⟩:=hrel;obtain⟨wo,bj⟩:∃wo,wo=wr:=⟨_,rfl⟩;subst bj;obtain⟨g0,g1⟩:=hK.c2;by_cases hlt:k<N
  ·have ax:k<n:=om9;have aw:decide ((k:Int)<(n:Int))=true:=decide_eq_true om9;have af:decide (k<n)=true:=decide_eq_true ax;have bf:decide ((k:Int)<6)=true:=decide_eq_true om9;have a3:decide (k<6)=true:=decide_eq_true om9;have i2:(0:Int)<=(k:Int):=om9;have i3:(k:Int)<(n:Int):=om9;have S:Hid ((zdH m R k).length=k):=zhQ _ _ _;have aj:Hid (zdH m R (k+1)=zdH m R k++[zet m (R k).2.2.2]):=zol _ _ _;have ak:=lh9 (λw' hb=>HR.out w' hb k ax);obtain⟨q,hq⟩:∃q,R k=q:=⟨_,rfl⟩;rw [hq] at aj ak;obtain⟨Ak,nk,ck,Lk⟩:=q;dsimp only at aj ak;clear hq;obtain⟨ad,rfl,be,I⟩:=ak.out wo hB;have az:=lh9 I.ints;have ap:=lh9 I.len;have hnk:nk<=1048576:=Nat.le_trans I.fits I.small;have HB:=lh9 hB;have a1:=lh9 U;have HK:=lh9 hK;clear U hB hK I be;go_wp2_with fail;have i:=aq.out wo;have f:Below wo.heap.size wo (wo.alloc (.cells Z 127)):=(Below.refl _ wo).alloc (Nat.le_refl _) _;have i:zgz (wo.alloc (.cells Z 127)) wo.heap.size m (zet m (Lk.take 0)):=i;obtain⟨gr,a6⟩:∃g,wo.heap.size=g:=⟨_,rfl⟩;have a8:wo.heap.size<=gr:=om9;rw [a6] at i⊢;generalize wo.alloc (.cells Z 127)=W2 at*;clear a6 g0 g1
   go_loopg [8] (m+1) (λg jx wr=>∃(j:Nat),j<=m/\j<=nk/\m<g+j/\jx=.int .i64 j/\zgz wr gr m (zet m (Lk.take j))/\Below wo.heap.size wo wr)
   case atStart=>exact⟨0,Nat.zero_le _,Nat.zero_le _,om9,rfl,i,f⟩
   case round=>
    clear i f;obtain⟨j,hjm,hjn,hg2,rfl,i,f⟩:=hrel;obtain⟨p0,p1⟩:=(zab f HK.out).c2;by_cases hjl:j<m
    ·have bg:decide ((j:Int)<(m:Int))=true:=decide_eq_true om9;have a4:decide (j<m)=true:=decide_eq_true hjl;obtain⟨bd,e2,hc,I⟩:=ak.out wr (zaa HB.out f);obtain rfl:ad=bd:=by injection e2
     clear e2;by_cases hjk:j<nk
     ·have bh:decide ((j:Int)<(nk:Int))=true:=decide_eq_true om9;have a5:decide (j<nk)=true:=decide_eq_true hjk;obtain⟨ae,rfl,hae,bi,ay⟩:=I.row j _ (zbi (d:=(0,0)) (by have:=ap.out;omega));have ay:=ziG ay;have P:(zet m (Lk.take j)).set j ((Lk.getD j (0,0)).1,(Lk.getD j (0,0)).2)=zet m (Lk.take (j+1)):=padL_set hjl (by have:=ap.out;omega);obtain⟨x,hx⟩:∃x,(Lk.getD j (0,0)).1=x:=⟨_,rfl⟩;obtain⟨y,hy⟩:∃y,(Lk.getD j (0,0)).2=y:=⟨_,rfl⟩;rw [hx] at bi P;rw [hy] at ay P;have i4:(0:Int)<=(j:Int):=om9;have i5:(j:Int)<(m:Int):=om9;have i6:(j:Int)<(nk:Int):=om9;have ag:=i.set_ hjl x y;rw [P] at ag;obtain⟨q0,q1,sc0,sf0,sc1,sf1⟩:=i.ready hjl (.int .i64 x);have a0:=lh9 ag;have bb:=lh9 (zae (p:=⟨gr,j*2+1,none⟩) (.int .i64 y) a8 (zae (p:=⟨gr,j*2,none⟩) (.int .i64 x) a8 f));clear i ag f I P hx hy;go_wp2;go_roundg (m - j)
      case measure=>omega
      case rel=>exact⟨j+1,om9,om9,om9,by go_num,a0.out,bb.out⟩
     ·have bh:decide ((j:Int)<(nk:Int))=false:=decide_eq_false om9;have a5:decide (j<nk)=false:=decide_eq_false hjk;have i5:(k:Int)<(n:Int):=om9;have t:j=m\/Lk.length<=j:=Or.inr (by have:=ap.out;omega);have ah:=zkJ (m:=m) (L:=Lk) (c:=j) t;have V:=lh9 ((ah▸i).args (zhW az.out) om9);have l:=lh9 (zaa HB.out f);have F:=lh9 (a1.out.below zej f);obtain⟨t1,t2,-⟩:=zax wr 57 #[.slice (some ⟨gr,0,none⟩) m m];have M:=lh9 (zaa l.out t1);have b:=lh9 (F.out.below zej t1);have E:=lh9 (V.out.below t1);have C:=b.out.own;rw [S.out] at C;have H:=lh9 C;have ab:=lh9 b.out.sl;have o:=lh9 (zda wr (.slice (some ⟨gr,0,none⟩) m m) 57);have X:=lh9 M.out.size;have O:=lh9 (λr (h:v.ownBlock=some r)=>b.out.own.lt r h);have ac:Hid (∀u ∈(Value.slice none 0 0).cells.toList,zcv u):=by intro u hu;simp [Value.cells] at hu;exact⟨_,_,_,hu⟩
      have Y:Hid (∀u ∈ [Value.slice (some ⟨gr,0,none⟩) m m],zcv u):=by intro u hu;simp at hu;exact⟨_,_,_,hu⟩
      have G:Hid (∀u ∈ [Value.slice (some ⟨gr,0,none⟩) m m],u.oneCell'=true):=by intro u hu;simp at hu;subst hu;rfl
      have s:=lh9 (zab t1 (zab f HK.out));have bc:Hid (Below w.heap.size w wr):=l.out;obtain⟨p0,p1⟩:=(zab f HK.out).c2;clear f i t1 t2 C ah t V l F;go_wp2_with (at_builtin;go_loud (refine zdA _ rfl (.tmp 52) (.tmp 54) 22 rfl (w.heap.size+1) 57 i9 (.slice none 0 0) 1 24 underlying22 a7 a9 al am rfl de9 v k vs rfl H.out ⟨wr.heap.size,0,none⟩ 1 1 [.slice (some ⟨gr,0,none⟩) m m] rfl rfl o.out G.out (by unfold maxLen;omega) om9 (s.out.lt) ab.out ac.out Y.out ?_;intro v' w8 D a av K));have B:=zbN.grow (n:=k+1) (L:=zet m Lk) zej b.out E.out (zdk _ _) D (by rw [S.out]) a K;rw [<-aj.out] at B;have aa:=lh9 B;have an:=lh9 (M.out.grown a X.out (λr hr=>by have:=(O.out r hr).1;omega));have ao:Hid (Blk w8 w.heap.size 24 #[.int .u8 (z:Int),.slice (some ad) n c]):=zbr s.out a (λe=>by have:=(O.out _ e).1;omega);clear B D a av K b E H ab o X O ac Y G M s p0 p1;go_wp2;go_roundg (N - k)
      case measure=>omega
      case rel=>exact⟨k+1,_,_,om9,om9,by go_num,rfl,aa.out,an.out,ao.out⟩
    ·have bg:decide ((j:Int)<(m:Int))=false:=decide_eq_false om9;have a4:decide (j<m)=false:=decide_eq_false hjl;have t:j=m\/Lk.length<=j:=Or.inl om9;have ah:=zkJ (m:=m) (L:=Lk) (c:=j) t;have V:=lh9 ((ah▸i).args (zhW az.out) om9);have l:=lh9 (zaa HB.out f);have F:=lh9 (a1.out.below zej f);obtain⟨t1,t2,-⟩:=zax wr 57 #[.slice (some ⟨gr,0,none⟩) m m];have M:=lh9 (zaa l.out t1);have b:=lh9 (F.out.below zej t1);have E:=lh9 (V.out.below t1);have C:=b.out.own;rw [S.out] at C;have H:=lh9 C;have ab:=lh9 b.out.sl;have o:=lh9 (zda wr (.slice (some ⟨gr,0,none⟩) m m) 57);have X:=lh9 M.out.size;have O:=lh9 (λr (h:v.ownBlock=some r)=>b.out.own.lt r h);have ac:Hid (∀u ∈(Value.slice none 0 0).cells.toList,zcv u):=by intro u hu;simp [Value.cells] at hu;exact⟨_,_,_,hu⟩
     have Y:Hid (∀u ∈ [Value.slice (some ⟨gr,0,none⟩) m m],zcv u):=by intro u hu;simp at hu;exact⟨_,_,_,hu⟩
     have G:Hid (∀u ∈ [Value.slice (some ⟨gr,0,none⟩) m m],u.oneCell'=true):=by intro u hu;simp at hu;subst hu;rfl
     have s:=lh9 (zab t1 (zab f HK.out));have bc:Hid (Below w.heap.size w wr):=l.out;obtain⟨p0,p1⟩:=(zab f HK.out).c2;clear f i t1 t2 C ah t V l F;go_wp2_with (at_builtin;go_loud (refine zdA _ rfl (.tmp 52) (.tmp 54) 22 rfl (w.heap.size+1) 57 i9 (.slice none 0 0) 1 24 underlying22 a7 a9 al am rfl de9 v k vs rfl H.out ⟨wr.heap.size,0,none⟩ 1 1 [.slice (some ⟨gr,0,none⟩) m m] rfl rfl o.out G.out (by unfold maxLen;omega) om9 (s.out.lt) ab.out ac.out Y.out ?_;intro v' w8 D a av K));have B:=zbN.grow (n:=k+1) (L:=zet m Lk) zej b.out E.out (zdk _ _) D (by rw [S.out]) a K;rw [<-aj.out] at B;have aa:=lh9 B;have an:=lh9 (M.out.grown a X.out (λr hr=>by have:=(O.out r hr).1;omega));have ao:Hid (Blk w8 w.heap.size 24 #[.int .u8 (z:Int),.slice (some ad) n c]):=zbr s.out a (λe=>by have:=(O.out _ e).1;omega);clear B D a av K b E H ab o X O ac Y G M s p0 p1;go_wp2;go_roundg (N - k)
     case measure=>omega
     case rel=>exact⟨k+1,_,_,om9,om9,by go_num,rfl,aa.out,an.out,ao.out⟩
  ·have J:k=N:=om9;have S:Hid ((zdH m R k).length=N):=by rw [J];exact zhQ _ _ _
   obtain⟨Q,q,rfl,hq1,hq2,ai,-⟩:=U.shape S.out;rw [J] at ai;have ar:=lh9 ai;have l:=lh9 hB;rcases T with T|T
   ·have aw:decide ((k:Int)<(n:Int))=false:=decide_eq_false om9;have af:decide (k<n)=false:=decide_eq_false om9;clear U hB hK ai J hlt T;go_wp2
    go_ret2
    exact⟨Q,q,rfl,ar.out,l.out⟩
   ·have bf:decide ((k:Int)<6)=false:=decide_eq_false om9;have a3:decide (k<6)=false:=decide_eq_false om9;by_cases ax:k<n
    ·have aw:decide ((k:Int)<(n:Int))=true:=decide_eq_true om9;have af:decide (k<n)=true:=decide_eq_true om9;clear U hB hK ai J hlt T;go_wp2
     go_ret2
     exact⟨Q,q,rfl,ar.out,l.out⟩
    ·have aw:decide ((k:Int)<(n:Int))=false:=decide_eq_false om9;have af:decide (k<n)=false:=decide_eq_false om9;clear U hB hK ai J hlt T;go_wp2
     go_ret2
     exact⟨Q,q,rfl,ar.out,l.out⟩
def zjl (m:Nat)(R:ziV)(k:Nat):List (List Rat):=(zdH m R k).map zgB
theorem zjm (m:Nat)(R:ziV)(k:Nat):zaY (zjl m R k) k m:=⟨by simp [zjl,zdH],λL hL=>by
 obtain⟨q,hq,rfl⟩:=List.mem_map.1 hL;obtain⟨i,hi,rfl⟩:=List.mem_map.1 hq;rw [zhv,zdk]⟩
theorem zmC {W:World}{A:oA9}{n c m k:Nat}{R:ziV}(h:zbc W A n c R)(hk:k<=n):zaO 1 (zjl m R k):=λL hL x hx=>by
 obtain⟨q,hq,rfl⟩:=List.mem_map.1 hL;obtain⟨i,hi,rfl⟩:=List.mem_map.1 hq;obtain⟨p,hp,rfl⟩:=List.mem_map.1 hx;obtain⟨ad,e,_,_,h3⟩:=h.row i (by have:=List.mem_range.1 hi;omega);obtain⟨⟨h4,h5⟩,h6,h7⟩:=zhW (m:=m) h3.ints p hp;exact qOf_sz h4 h5 h6 h7
theorem zop {z:Nat}{A:oA9}{n c:Nat}{R:ziV}{w:World}(hT:zai w)(hz:z<=255)(h:zbc w A n c R):
  Calls prog 13 #[.agg #[.int .u8 (z:Int),.slice A n c]] w (zcr w (min n 6) (z%7) (zjl (z%7) R (min n 6))):=by
 obtain⟨i9,a2,a6,au,av⟩:=info_parts zgq;have HZ:=lh9 (zmC (m:=z%7) h (Nat.min_le_left n 6));have HD:=lh9 (zjm (z%7) R (min n 6));have HI:Hid (∀k,k<min n 6->zcK 0/\(zdH (z%7) R (min n 6)).getD k []=zet (z%7) (R k).2.2.2):=λk hk=>⟨⟨de9,de9⟩,by
  unfold zdH;rw [List.getD_eq_getElem?_getD,List.getElem?_map,List.getElem?_range hk];rfl⟩
 have a:=lh9 (λW (hb:Below w.heap.size w W)=>zoq hz (show zbc W A n c R from⟨h.fits,h.small,λr hr=>by
  obtain⟨ad,e,h1,h2,h3⟩:=h.row r hr;exact⟨ad,e,Nat.lt_of_lt_of_le h1 hb.size,zac hb h2,h3.below hb⟩⟩))
 obtain⟨m,hm⟩:∃m,z%7=m:=⟨_,rfl⟩;obtain⟨N,hN⟩:∃N,min n 6=N:=⟨_,rfl⟩;have hm6:m<=6:=om9;have hN6:N<=6:=om9;rw [hm,hN] at HZ HD HI a⊢;have HT:=up9 w (λw' hb=>hT.on hb);have l:Hid ((zdH m R N).length=N):=zhQ _ _ _;obtain⟨G,hG⟩:∃G,zdH m R N=G:=⟨_,rfl⟩;have ak:zjl m R N=G.map zgB:=by unfold zjl;rw [hG]
 rw [hG] at HI a l;rw [ak] at HZ HD⊢;have T:Hid (∀k,k<N->(G.getD k []).length=m):=λk hk=>by rw [(HI.out k hk).2,zdk]
 have az:Hid (∀k,k<N->(G.take (k+1)).map zgB=(G.take k).map zgB++[zgB (G.getD k [])]):=λk hk=>by
  have hl:=l.out;rw [List.take_succ_eq_append_getElem om9,List.map_append,List.getD_eq_getElem?_getD,List.getElem?_eq_getElem om9];rfl
 obtain⟨ag,ah,ai,bz⟩:=zbO w 24 28 #[.int .u8 (z:Int),.slice A n c] #[.slice none 0 0,.int .i64 0];obtain⟨g0,g1⟩:=ah.c2;have HB:=lh9 ag;have HK:=lh9 ai;clear h hT hz hm hN hG ak ag ah ai bz HI;unfold zcr;go_enter func13,ntmps13;go_wp2_with fail;(with_reducible refine(a.out _ HB.out).mono ?_);rintro e w1 ⟨Q,q,rfl,ar,hb⟩;have P:=lh9 (zaa HB.out hb);have ax:=lh9 (zab hb HK.out);have ay:=lh9 ar;have aj:=Below.refl w1.heap.size w1;clear hb ar HB HK g0 g1 a;go_wp2_with fail
 go_loopg [5,6] (N+1) (λg sl ix wr=>∃(k:Nat) (v:Value) (vs:List Value),k<=N/\N<g+k/\ix=.int .i64 k/\v=sl/\zbN (zaM zaf) wr w1.heap.size 61 v ((G.take k).map zgB) vs/\Below w1.heap.size w1 wr)
 case atStart=>exact⟨0,_,_,Nat.zero_le _,om9,rfl,rfl,zbN.nil _ _ _,aj⟩
 case round=>
  clear aj;obtain⟨k,v,vs,hkN,hg,rfl,rfl,o,i⟩:=hrel;by_cases hlt:k<N
  ·obtain⟨ad,B,d,rfl,-,hc,ha⟩:=ay.out.get zej i hlt (T.out k hlt);have a1:decide ((k:Int)<(N:Int))=true:=decide_eq_true om9;have i1:(0:Int)<=(k:Int):=om9;have i2:(k:Int)<(N:Int):=om9;have ab:=lh9 (az.out k hlt);have S:=lh9 (T.out k hlt);obtain⟨Lk,al⟩:∃L,G.getD k []=L:=⟨_,rfl⟩;rw [al] at ha ab S;have aa:Hid (((G.take k).map zgB).length=k):=by show _=_;rw [List.length_map,List.length_take];have:=l.out;omega
   have HA:=lh9 ha;have X:=lh9 o;have J:=lh9 i;clear al ha o i;go_wp2_with fail;(with_reducible refine(zoo (HT.out _ (zaa P.out J.out)) HA.out).mono ?_);rintro e w5 ⟨A5,c5,rfl,hv5,-,hb⟩;obtain⟨t1,t2,-⟩:=zax w5 61 #[.slice A5 m c5];have O:=zaa hb t1;have b:=lh9 (X.out.below (zaA zak) O);have ae:=lh9 (zaH.keep hv5 t1);have I:=lh9 (zaa J.out O);have t:=b.out.own;rw [aa.out] at t;have E:=lh9 t;have ac:=lh9 b.out.sl;have j:=lh9 (zda w5 (.slice A5 m c5) 61);have K:=lh9 I.out.size;have V:=lh9 (λr (h:v.ownBlock=some r)=>b.out.own.lt r h);have af:Hid (∀u ∈(Value.slice none 0 0).cells.toList,zcv u):=by intro u hu;simp [Value.cells] at hu;exact⟨_,_,_,hu⟩
   have U:Hid (∀u ∈ [Value.slice A5 m c5],zcv u):=by intro u hu;simp at hu;exact⟨_,_,_,hu⟩
   have D:Hid (∀u ∈ [Value.slice A5 m c5],u.oneCell'=true):=by intro u hu;simp at hu;subst hu;rfl
   clear hb hv5 t1 t2 O t hc X J HA;go_wp2_with (at_builtin;go_loud (refine zdA _ rfl (.tmp 20) (.tmp 26) 26 rfl w1.heap.size 61 i9 (.slice none 0 0) 1 24 underlying26 a2 a6 au av rfl de9 v k vs rfl E.out ⟨w5.heap.size,0,none⟩ 1 1 [.slice A5 m c5] rfl rfl j.out D.out (by unfold maxLen;omega) om9 K.out ac.out af.out U.out ?_;intro v' w8 y f a0 F));have s:=zbN.grow (n:=k+1) (L:=zgB Lk) (zaA zak) b.out ae.out (by rw [zhv];exact S.out) y (by rw [aa.out]) f F;rw [<-ab.out] at s;have Y:=lh9 s;have aw:=lh9 (I.out.grown f K.out (λr hr=>(V.out r hr).1));clear s y f a0 F b ae E ac j K V af U D I;go_wp2;go_roundg (N - k)
   case measure=>omega
   case rel=>exact⟨k+1,_,_,om9,om9,by go_num,rfl,Y.out,aw.out⟩
  ·have hk:k=N:=om9;subst hk;have a1:decide ((k:Int)<(k:Int))=false:=si9;rw [List.take_of_length_le (by have:=l.out;omega)] at o;obtain⟨Q5,q5,rfl,a4,a5,aq,-⟩:=o.shape (n:=k) (by rw [List.length_map];exact l.out);have Z:=lh9 aq;have H:=lh9 (zaa P.out i);have M:=lh9 (zab i ax.out);clear o i aq a4 a5;go_wp2_with fail;(with_reducible refine(zoE (HT.out _ H.out) Z.out HD.out om9 om9 HZ.out de9).mono ?_);rintro e w7 ⟨A7,c7,rfl,ao,an,hb⟩;obtain⟨t1,t2,-⟩:=zax w7 28 #[.slice A7 k c7,.int .i64 (m:Int)];have C:=zab t1 (zab hb M.out);have a3:=M.out.lt;have ap:=ao.keep t1;have am:=zaa H.out (zaa hb t1);obtain⟨p0,p1⟩:=t2.c2;obtain⟨sc0,sf0,sc1,sf1⟩:=st2 C (.slice A7 k c7);obtain⟨r0,r1⟩:=(sn2 C (.slice A7 k c7) (.int .i64 (m:Int))).c2;have HG:=lh9 (gm2 ap (λad e=>Nat.lt_of_lt_of_le a3 (an ad e)) C am om9);unfold zcr at HG;clear t1 t2 C ap am ao an hb Z H M;go_wp2;refine bodyPost_ret (v:=.agg #[.slice A7 k c7,.int .i64 (m:Int)]) (by simp [results,results13,go_sem,r0,r1]) rfl ?_;exact HG.out
