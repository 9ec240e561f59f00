/- What this claim leans on. -/
import Derived.Test.YtghpdeciaaagnaaGreatDoorIBunI
namespace Go.Proofs.YtghpdeciaaagnaaGreatDoor
open Go Go.RowKit
set_option maxHeartbeats 16000000
set_option linter.unusedVariables false
abbrev El (α:Type):=World->α->Bool->oA9->Nat->Nat->oA9->Nat->Nat->Prop
def zbl (g:Nat)(w w':World):Prop:=w.heap.size<=w'.heap.size/\∀p:Addr,p.block<w.heap.size->p.block≠g->w'.cell? p=w.cell? p
theorem zbl.of_far {g:Nat}{w w':World}(h:zbj g w w'):zbl g w w':=⟨by rw [h.1];exact Nat.le_refl _,λp _ hp=>h.2 p hp⟩
theorem zbl.of_grown {g:Nat}{w w':World}(h:w.grownBy w' (some g)):zbl g w w':=
 ⟨h.size,λp hp hne=>World.cell?_of_block (h.block p.block hp (λe=>hne (by injection e)))⟩
theorem zbw {w w':World}(h:w.grownBy w' none):Below w.heap.size w w':=(Below.refl _ w).grown h (Nat.le_refl _) (λk e=>by cases e)
theorem zjT {w w':World}{A:oA9}{n g:Nat}{k:IntKind}{l:List Nat}{t:TypeId}{cs:Array Value}(h:zas w w.heap.size 1 A n (zaA k l))(hk:Blk w g t cs)(hcs:NoU cs)(ho:zbl g w w'):zas w' w'.heap.size 1 A n (zaA k l):=by
 have hne:=zlc h hk hcs
 refine⟨h.1,λhn=>?_⟩
 obtain⟨ad,e,hb,hc⟩:=h.2 hn
 refine⟨ad,e,Nat.lt_of_lt_of_le hb ho.1,λj v hv=>?_⟩
 rw [ho.2 (ad.add j) (by rw [zap];exact hb) (by rw [zap];exact hne hn ad e)]
 exact hc j v hv
theorem zko {w w':World}{x:Nat}{A:oA9}{n c g:Nat}{t:TypeId}{cs:Array Value}(h:zad w x A n c)(hk:Blk w g t cs)(hcs:NoU cs)(ho:zbl g w w'):zad w' x A n c:=⟨zjT h.1 hk hcs ho,h.2⟩
theorem zjq {w w':World}{x:Nat}{A:oA9}{n c g:Nat}{t:TypeId}{cs:Array Value}(h:zdw w x A n c)(hk:Blk w g t cs)(hcs:NoU cs)(ho:zbl g w w'):zdw w' x A n c:=⟨zjT h.1 hk hcs ho,h.2⟩
structure zdT {α:Type}(E:El α):Prop where
 below:∀{w w':World} {x:α} {b:Bool} {A:oA9} {n c:Nat} {F:oA9} {k f:Nat},E w x b A n c F k f->Below w.heap.size w w'->E w' x b A n c F k f
 offg:∀{w w':World} {x:α} {b:Bool} {A:oA9} {n c:Nat} {F:oA9} {k f g:Nat} {t:TypeId} {cs:Array Value},E w x b A n c F k f->Blk w g t cs->NoU cs->zbl g w w'->E w' x b A n c F k f
theorem zaf:zdT zah where
 below h hb:=h.below hb
 offg h hk hcs ho:=by
  obtain⟨⟨h1,h2⟩,x,e,h3⟩:=h
  exact⟨⟨h1,zko h2 hk hcs ho⟩,x,e,zko h3 hk hcs ho⟩
section
variable {α:Type}{E:El α}
structure zaI (E:El α)(w:World)(A:oA9)(n c:Nat)(xs:List α):Prop where
 len:xs.length=n
 fits:n<=c
 most:c<=9223372036854775807
 num:∀i x,xs[i]?=some x->∃(ad:Addr) (b:Bool) (B:oA9) (m d:Nat) (F:oA9) (u v:Nat),A=some ad/\ad.block<w.heap.size/\w.cell? (ad.add (i*3))=some (.bool b)/\w.cell? (ad.add (i*3+1))=some (.slice B m d)/\w.cell? (ad.add (i*3+2))=some (.slice F u v)/\E w x b B m d F u v
theorem zaI.below (hE:zdT E){w w':World}{A:oA9}{n c:Nat}{xs:List α}(h:zaI E w A n c xs)(hb:Below w.heap.size w w'):zaI E w' A n c xs:=
 ⟨h.len,h.fits,h.most,λi x hi=>by
  obtain⟨ad,b,B,m,d,F,u,v,e,h1,h2,h3,h4,h5⟩:=h.num i x hi
  exact⟨ad,b,B,m,d,F,u,v,e,Nat.lt_of_lt_of_le h1 hb.size,zac hb h2,zac hb h3,zac hb h4,hE.below h5 hb⟩⟩
theorem zaI.nil (w:World):zaI E w none 0 0 []:=⟨rfl,Nat.le_refl _,by decide,λi x hi=>by simp at hi⟩
theorem zaI.at_ {w:World}{A:oA9}{n c:Nat}{xs:List α}(h:zaI E w A n c xs){i:Nat}(hi:i<n)(d0:α):∃(ad:Addr) (b:Bool) (B:oA9) (m d:Nat) (F:oA9) (u v:Nat),A=some ad/\ad.block<w.heap.size/\w.cell? (ad.add (i*3))=some (.bool b)/\w.cell? (ad.add (i*3+1))=some (.slice B m d)/\w.cell? (ad.add (i*3+2))=some (.slice F u v)/\E w (xs.getD i d0) b B m d F u v:=by
 have hl:=h.len
 refine h.num i _ ?_
 rw [List.getD_eq_getElem?_getD,List.getElem?_eq_getElem (by omega)]
 rfl
structure zbm (E:El α)(w:World)(t:TypeId)(g n:Nat)(xs:List α):Prop where
 len:xs.length=n
 blk:∃cs:Array Value,Blk w g t cs/\NoU cs/\cs.size=n*3
 num:∀i x,xs[i]?=some x->∃(b:Bool) (B:oA9) (m d:Nat) (F:oA9) (u v:Nat),w.cell? ⟨g,i*3,none⟩=some (.bool b)/\w.cell? ⟨g,i*3+1,none⟩=some (.slice B m d)/\w.cell? ⟨g,i*3+2,none⟩=some (.slice F u v)/\E w x b B m d F u v
theorem zbm.lt {w:World}{t:TypeId}{g n:Nat}{xs:List α}(h:zbm E w t g n xs):g<w.heap.size:=by
 obtain⟨cs,hk,_⟩:=h.blk
 exact hk.lt
theorem zbm.below (hE:zdT E){w w':World}{t:TypeId}{g n:Nat}{xs:List α}(h:zbm E w t g n xs)(hb:Below w.heap.size w w'):zbm E w' t g n xs:=by
 refine⟨h.len,?_,λi x hi=>?_⟩
 ·obtain⟨cs,hk,h1,h2⟩:=h.blk
  exact⟨cs,zaa hb hk,h1,h2⟩
 ·obtain⟨b,B,m,d,F,u,v,h1,h2,h3,h4⟩:=h.num i x hi
  exact⟨b,B,m,d,F,u,v,zac hb h1,zac hb h2,zac hb h3,hE.below h4 hb⟩
theorem zaP (g k:Nat):(⟨g,0,none⟩:Addr).add k=⟨g,k,none⟩:=by unfold Addr.add;split<;>simp_all
theorem zbm.row {w:World}{t:TypeId}{g n:Nat}{xs:List α}(h:zbm E w t g n xs)(hn:n<=9223372036854775807):zaI E w (some ⟨g,0,none⟩) n n xs:=
 ⟨h.len,Nat.le_refl _,hn,λi x hi=>by
  obtain⟨b,B,m,d,F,u,v,h1,h2,h3,h4⟩:=h.num i x hi
  exact⟨_,b,B,m,d,F,u,v,rfl,h.lt,by rw [zaP];exact h1,by rw [zaP];exact h2,by rw [zaP];exact h3,h4⟩⟩
theorem zbm.ready {w:World}{t:TypeId}{g n:Nat}{xs:List α}(h:zbm E w t g n xs){i:Nat}(hi:i<n)(x y:Value):∃a b c:Value,w.cell? ⟨g,i*3,none⟩=some a/\w.frozen? ⟨g,i*3,none⟩=false/\(w.setCell ⟨g,i*3,none⟩ x).cell? ⟨g,i*3+1,none⟩=some b/\(w.setCell ⟨g,i*3,none⟩ x).frozen? ⟨g,i*3+1,none⟩=false/\
  ((w.setCell ⟨g,i*3,none⟩ x).setCell ⟨g,i*3+1,none⟩ y).cell? ⟨g,i*3+2,none⟩=some c/\((w.setCell ⟨g,i*3,none⟩ x).setCell ⟨g,i*3+1,none⟩ y).frozen? ⟨g,i*3+2,none⟩=false:=by
 obtain⟨cs,hk,h1,h2⟩:=h.blk
 have hk1:=hk.set_ (i*3) x
 have hk2:=hk1.set_ (i*3+1) y
 have e0:i*3<cs.size:=by omega
 have e1:i*3+1<(cs.setIfInBounds (i*3) x).size:=by simp;omega
 have e2:i*3+2<((cs.setIfInBounds (i*3) x).setIfInBounds (i*3+1) y).size:=by simp;omega
 exact⟨_,_,_,(hk.cell _).trans (Array.getElem?_eq_getElem e0),hk.frozen _,(hk1.cell _).trans (Array.getElem?_eq_getElem e1),hk1.frozen _,(hk2.cell _).trans (Array.getElem?_eq_getElem e2),hk2.frozen _⟩
theorem zlQ {cs:Array Value}(h:NoU cs)(i:Nat){v:Value}(hv:∀k z,v≠.int k z):NoU (cs.setIfInBounds i v):=by
 intro u hu
 rw [Array.toList_setIfInBounds] at hu
 rcases List.mem_or_eq_of_mem_set hu with hu|rfl
 ·exact h u hu
 ·exact hv
theorem offg3 (g i j k:Nat)(w:World)(x y z:Value):zbj g w (((w.setCell ⟨g,i,none⟩ x).setCell ⟨g,j,none⟩ y).setCell ⟨g,k,none⟩ z):=(((zbj.refl g w).set_ i x).set_ j y).set_ k z
theorem zbm.set_ (hE:zdT E){w:World}{t:TypeId}{g n:Nat}{xs:List α}(h:zbm E w t g n xs){i:Nat}(hi:i<n){x:α}{b:Bool}{B:oA9}{m d:Nat}{F:oA9}{u v:Nat}(hx:E w x b B m d F u v):
  zbm E (((w.setCell ⟨g,i*3,none⟩ (.bool b)).setCell ⟨g,i*3+1,none⟩ (.slice B m d)).setCell ⟨g,i*3+2,none⟩ (.slice F u v)) t g n (xs.set i x):=by
 obtain⟨cs,hk,h1,h2⟩:=h.blk
 have ho:=zbl.of_far (offg3 g (i*3) (i*3+1) (i*3+2) w (.bool b) (.slice B m d) (.slice F u v))
 have hk3:=((hk.set_ (i*3) (.bool b)).set_ (i*3+1) (.slice B m d)).set_ (i*3+2) (.slice F u v)
 refine⟨by rw [List.length_set];exact h.len,⟨_,hk3,?_,by simp;exact h2⟩,λj y hj=>?_⟩
 ·exact zlQ (zlQ (zlQ h1 _ (λ_ _ e=>by cases e)) _ (λ_ _ e=>by cases e)) _ (λ_ _ e=>by cases e)
 ·by_cases hij:i=j
  ·subst hij
   have hl:=h.len
   rw [List.getElem?_set_self (by omega)] at hj
   injection hj with hj
   subst hj
   refine⟨b,B,m,d,F,u,v,?_,?_,?_,hE.offg hx hk h1 ho⟩
   ·rw [hk3.cell,Array.getElem?_setIfInBounds_ne (by omega),Array.getElem?_setIfInBounds_ne (by omega),Array.getElem?_setIfInBounds_self_of_lt (by omega)]
   ·rw [hk3.cell,Array.getElem?_setIfInBounds_ne (by omega),Array.getElem?_setIfInBounds_self_of_lt (by simp;omega)]
   ·rw [hk3.cell,Array.getElem?_setIfInBounds_self_of_lt (by simp;omega)]
  ·rw [List.getElem?_set_ne hij] at hj
   obtain⟨b',B',m',d',F',u',v',c1,c2,c3,c4⟩:=h.num j y hj
   refine⟨b',B',m',d',F',u',v',?_,?_,?_,hE.offg c4 hk h1 ho⟩
   ·rw [hk3.cell,Array.getElem?_setIfInBounds_ne (by omega),Array.getElem?_setIfInBounds_ne (by omega),Array.getElem?_setIfInBounds_ne (by omega),<-hk.cell];exact c1
   ·rw [hk3.cell,Array.getElem?_setIfInBounds_ne (by omega),Array.getElem?_setIfInBounds_ne (by omega),Array.getElem?_setIfInBounds_ne (by omega),<-hk.cell];exact c2
   ·rw [hk3.cell,Array.getElem?_setIfInBounds_ne (by omega),Array.getElem?_setIfInBounds_ne (by omega),Array.getElem?_setIfInBounds_ne (by omega),<-hk.cell];exact c3
end
theorem zbF (z:Array Value)(n j:Nat)(h:j<n):(madeCells z n)[j]?=some z[j%z.size]!:=by
 unfold madeCells
 rw [Array.getElem?_map,Array.getElem?_eq_getElem (by simpa using h)]
 simp
def zgC:Array Value:=#[.bool false,.slice none 0 0,.slice none 0 0]
theorem zrs (n:Nat):NoU (madeCells zgC n):=by
 intro v hv k z e
 rw [Array.mem_toList_iff,Array.mem_iff_getElem?] at hv
 obtain⟨j,hj⟩:=hv
 have hlt:j<n:=by
  have:=(Array.getElem?_eq_some_iff.1 hj).1
  rwa [size_madeCells] at this
 rw [zbF _ _ _ hlt] at hj
 have h3:j%3=0\/j%3=1\/j%3=2:=by omega
 rw [show zgC.size=3 from rfl] at hj
 subst e
 rcases h3 with h3|h3|h3<;>rw [h3] at hj<;>simp [zgC] at hj
theorem zbm.made {α:Type}{E:El α}(w:World)(t:TypeId)(n:Nat)(z0:α)(hz:∀w',E w' z0 false none 0 0 none 0 0):zbm E (w.alloc (.cells (madeCells zgC (n*3)) t)) t w.heap.size n (List.replicate n z0):=by
 have hk:=Blk.new w t (madeCells zgC (n*3))
 refine⟨by simp,⟨_,hk,zrs _,size_madeCells _ _⟩,λi x hi=>?_⟩
 have hlt:i<n:=by
  have:=(List.getElem?_eq_some_iff.1 hi).1
  simpa using this
 obtain rfl:z0=x:=by
  rw [List.getElem?_replicate,if_pos hlt] at hi
  injection hi
 have e0:(i*3)%3=0:=by omega
 have e1:(i*3+1)%3=1:=by omega
 have e2:(i*3+2)%3=2:=by omega
 refine⟨false,none,0,0,none,0,0,?_,?_,?_,hz _⟩
 ·rw [hk.cell,zbF _ _ _ (by omega),show zgC.size=3 from rfl,e0];rfl
 ·rw [hk.cell,zbF _ _ _ (by omega),show zgC.size=3 from rfl,e1];rfl
 ·rw [hk.cell,zbF _ _ _ (by omega),show zgC.size=3 from rfl,e2];rfl
def zbR {α:Type}(z0:α)(ys:List α)(n i:Nat):List α:=ys.take i++List.replicate (n - i) z0
theorem zbh {α:Type}(z0:α)(ys:List α)(n:Nat):zbR z0 ys n 0=List.replicate n z0:=by simp [zbR]
theorem zbs {α:Type}(z0:α)(ys:List α)(n:Nat)(h:ys.length=n):zbR z0 ys n n=ys:=by simp [zbR,<-h]
theorem zbt {α:Type}(z0:α)(ys:List α)(n i:Nat)(hl:ys.length=n)(hi:i<n)(y:α)(hy:ys[i]?=some y):(zbR z0 ys n i).set i y=zbR z0 ys n (i+1):=by
 unfold zbR
 have hlt:i<ys.length:=by omega
 have e:(ys.take i).length=i:=by rw [List.length_take];omega
 rw [List.set_append_right _ _ (by omega),e,Nat.sub_self,List.take_succ_eq_append_getElem hlt,List.append_assoc]
 congr 1
 obtain⟨m,hm⟩:∃m,n - i=m+1:=⟨n - i - 1,by omega⟩
 have hm2:n - (i+1)=m:=by omega
 rw [hm,hm2,List.replicate_succ]
 have hv:ys[i]=y:=by rw [List.getElem?_eq_getElem hlt] at hy;injection hy
 rw [hv]
 rfl
theorem zit (w:World):zad w 0 none 0 0:=by
 refine⟨⟨by rw [show dg 18446744073709551616 0=[] from by rw [dg];rfl];rfl,λh=>absurd h (by decide)⟩,Nat.le_refl _,by decide⟩
theorem zgO (w:World):zah w (0:Rat) false none 0 0 none 0 0:=⟨⟨rfl,zit w⟩,⟨0,⟨rfl,by decide⟩,zit w⟩⟩
abbrev zaz (w:World)(A:oA9)(n c:Nat)(xs:List Rat):Prop:=zaI zah w A n c xs
abbrev zbU (w:World)(g n:Nat)(xs:List Rat):Prop:=zbm zah w 41 g n xs
theorem zaz.keep {w w':World}{A:oA9}{n c:Nat}{xs:List Rat}(h:zaz w A n c xs)(hb:Below w.heap.size w w'):zaz w' A n c xs:=zaI.below zaf h hb
theorem zbU.keep {w w':World}{g n:Nat}{xs:List Rat}(h:zbU w g n xs)(hb:Below w.heap.size w w'):zbU w' g n xs:=zbm.below zaf h hb
def zdI (w:World)(n:Nat)(xs:List Rat)(e:Ending)(w':World):Prop:=∃g,e=.returned (.slice (some ⟨g,0,none⟩) n n)/\w.heap.size<=g/\zbU w' g n xs/\Below w.heap.size w w'
def zdP (w:World)(n:Nat)(xs:List Rat)(e:Ending)(w':World):Prop:=∃g,e=.returned (.tuple #[.slice (some ⟨g,0,none⟩) n n,.bool true])/\w.heap.size<=g/\zbU w' g n xs/\Below w.heap.size w w'
theorem own_make (w:World)(n:Nat):zbU (w.alloc (.cells (madeCells zgC (n*3)) 41)) w.heap.size n (List.replicate n 0):=zbm.made w _ n 0 zgO
theorem zop:(Tryz.prog.info? 41).map (λi=>(i.zero,i.size,i.bytes))=some (some (.agg #[.bool false,.slice none 0 0,.slice none 0 0]),3,56):=by kernel_rfl
theorem ziF {w:World}{ad:Addr}{k:Nat}{v:Value}(h:w.cell? (ad.add (k+1))=some v):w.cell? ⟨(ad.add k).block,(ad.add k).off+1,none⟩=some v:=by
 rw [<-zdU] at h
 exact h
theorem zpq {w:World}{ad:Addr}{k:Nat}{v:Value}(h:w.cell? (ad.add (k+2))=some v):w.cell? ⟨(ad.add k).block,(ad.add k).off+2,none⟩=some v:=by
 rw [<-zdU] at h
 exact h
theorem zdC (n:Nat)(hn:n<=1099511627776):∃Z:Array Value,∀W:World,(Instr.makeSlice 61 (.int .i64 (n:Int)) (.int .i64 (n:Int))).run Tryz.prog W=.ok (.slice (some ⟨W.heap.size,0,none⟩) n n) (W.alloc (.cells Z 41))/\zbU (W.alloc (.cells Z 41)) W.heap.size n (List.replicate n 0):=by
 obtain⟨i0,hi0,hz0,hz1,hz2⟩:=info_parts zop
 refine⟨madeCells zgC (n*3),λW=>⟨?_,own_make W n⟩⟩
 have h:=zaW (P:=Tryz.prog) _ _ i0 _ Tryz.underlying61 hi0 hz0 .i64 .i64 n n (Nat.le_refl _) (by rw [hz2];omega) (by omega) W
 rw [hz1] at h
 exact h
theorem zaz.get {w wr:World}{A:oA9}{n c:Nat}{xs:List Rat}(h:zaz w A n c xs)(hb:Below w.heap.size w wr){i:Nat}(hi:i<n):∃(ad:Addr) (b:Bool) (B:oA9) (m d:Nat) (F:oA9) (u v:Nat),A=some ad/\ad.block<w.heap.size/\wr.cell? (ad.add (i*3))=some (.bool b)/\wr.cell? ⟨(ad.add (i*3)).block,(ad.add (i*3)).off+1,none⟩=some (.slice B m d)/\wr.cell? ⟨(ad.add (i*3)).block,(ad.add (i*3)).off+2,none⟩=some (.slice F u v)/\zah wr (xs.getD i 0) b B m d F u v:=by
 obtain⟨ad,b,B,m,d,F,u,v,e,h0,h1,h2,h3,h4⟩:=h.at_ hi 0
 exact⟨ad,b,B,m,d,F,u,v,e,h0,zac hb h1,zac hb (ziF h2),zac hb (zpq h3),h4.below hb⟩
theorem ziL {ad:Addr}{k g:Nat}(h:ad.block≠g):(ad.add k).block≠g:=by rw [zap];exact h
theorem zbH {w W:World}{g:Nat}(i j k:Nat)(x y z:Value)(hg:w.heap.size<=g)(h:Below w.heap.size w W):Below w.heap.size w (((W.setCell ⟨g,i,none⟩ x).setCell ⟨g,j,none⟩ y).setCell ⟨g,k,none⟩ z):=zae z hg (zae y hg (zae x hg h))
def qOf (p q:Int):Rat:=Rat.divInt p (if q=0 then 1 else q)
theorem qOf_zero (p:Int):qOf p 0=(p:Rat):=by
 unfold qOf
 rw [if_pos rfl]
 exact Rat.ext (by rw [Rat.num_divInt,Rat.num_intCast];simp) (by rw [Rat.den_divInt,Rat.den_intCast];simp)
theorem qOf_ne {p q:Int}(h:q≠0):qOf p q=Rat.divInt p q:=by unfold qOf;rw [if_neg h]
theorem zhA {z:Int}(h1: -9223372036854775808<=z)(h2:z<=9223372036854775807):Sz 1 z.natAbs:=by
 show z.natAbs<18446744073709551616^1
 rw [Nat.pow_one]
 omega
theorem qOf_sz {p q:Int}(hp1: -9223372036854775808<=p)(hp2:p<=9223372036854775807)(hq1: -9223372036854775808<=q)(hq2:q<=9223372036854775807):SzQ 1 (qOf p q):=by
 unfold qOf
 refine SzQ.made (zhA hp1 hp2) ?_ (by decide)
 split
 ·exact zhA (by decide) (by decide)
 ·exact zhA hq1 hq2
def zdG (rs:List Rat):Rat:=rs.foldl (λa b=>a+b) 0
theorem zqr (rs:List Rat)(a:Rat):rs.foldl (λa b=>a+b) a=a+zdG rs:=by
 unfold zdG
 induction rs generalizing a with
 |nil=>exact(Rat.add_zero a).symm
 |cons r t ih=>
   rw [List.foldl_cons,List.foldl_cons,ih (a+r),ih (0+r),Rat.zero_add,Rat.add_assoc]
theorem zlj:zdG []=0:=rfl
theorem zfh (r:Rat)(rs:List Rat):zdG (r::rs)=r+zdG rs:=by
 show(r::rs).foldl (λa b=>a+b) 0=_
 rw [List.foldl_cons,zqr,Rat.zero_add]
def zhi (xs ys:List Rat):Rat:=zdG (List.zipWith (λa b=>a*b) xs ys)
theorem zkH (x:Rat)(xs:List Rat)(y:Rat)(ys:List Rat):zhi (x::xs) (y::ys)=x*y+zhi xs ys:=by
 show zdG (List.zipWith _ (x::xs) (y::ys))=_
 rw [List.zipWith_cons_cons,zfh]
 rfl
def addL (xs ys:List Rat):List Rat:=List.zipWith (λa b=>a+b) xs ys
def subL (xs ys:List Rat):List Rat:=List.zipWith (λa b=>a - b) xs ys
def mulL (xs ys:List Rat):List Rat:=List.zipWith (λa b=>a*b) xs ys
def zib (xs:List Rat)(r:Rat)(ys:List Rat):List Rat:=List.zipWith (λa b=>a+r*b) xs ys
def zaS (r:Rat)(xs:List Rat):List Rat:=xs.map λx=>r*x
theorem zpT {xs ys:List Rat}{f:Rat->Rat->Rat}{n:Nat}(h:xs.length=n)(k:ys.length=n):(List.zipWith f xs ys).length=n:=by rw [List.length_zipWith,h,k,Nat.min_self]
def zeY:List Rat->List Rat->Int
 |[],[]=>0
 |[],_::_=> -1
 |_::_,[]=>1
 |x::xs,y::ys=>if x=y then zeY xs ys else zgG x y
theorem cmpQ_ne {x y:Rat}(h:x≠y):zgG x y≠0:=λe=>h ((cmpQ_eq x y).1 e)
theorem zlC:∀(xs ys:List Rat),zeY xs ys=0↔xs=ys
 |[],[]=>by simp [zeY]
 |[],_::_=>by simp [zeY]
 |_::_,[]=>by simp [zeY]
 |x::xs,y::ys=>by
   unfold zeY
   by_cases h:x=y
   ·rw [if_pos h,zlC xs ys,h];simp
   ·rw [if_neg h]
    constructor
    ·intro e;exact absurd e (cmpQ_ne h)
    ·intro e;injection e with e1 e2;exact absurd e1 h
theorem zqd {x y:Rat}{xs ys:List Rat}(h:x=y):zeY (x::xs) (y::ys)=zeY xs ys:=by
 show(if x=y then zeY xs ys else zgG x y)=_
 exact if_pos h
theorem zoa {x y:Rat}{xs ys:List Rat}(h:x≠y):zeY (x::xs) (y::ys)=zgG x y:=by
 show(if x=y then zeY xs ys else zgG x y)=_
 exact if_neg h
theorem zdS {xs:List Rat}{k:Nat}(h:k<xs.length):xs.drop k=xs.getD k 0::xs.drop (k+1):=by
 rw [List.drop_eq_getElem_cons h,List.getD_eq_getElem?_getD,List.getElem?_eq_getElem h];rfl
theorem zjf {xs ys:List Rat}{k:Nat}(hx:k<xs.length)(hy:k<ys.length)(h:xs.getD k 0=ys.getD k 0):zeY (xs.drop k) (ys.drop k)=zeY (xs.drop (k+1)) (ys.drop (k+1)):=by
 rw [zdS hx,zdS hy,zqd h]
theorem ziw {xs ys:List Rat}{k:Nat}(hx:k<xs.length)(hy:k<ys.length)(h:xs.getD k 0≠ys.getD k 0):zeY (xs.drop k) (ys.drop k)=zgG (xs.getD k 0) (ys.getD k 0):=by
 rw [zdS hx,zdS hy,zoa h]
def cmpN (a b:Nat):Int:=if a<b then -1 else if a=b then 0 else 1
theorem cmpV_end {xs ys:List Rat}{k:Nat}(hk:k=min xs.length ys.length):zeY (xs.drop k) (ys.drop k)=cmpN xs.length ys.length:=by
 unfold cmpN
 by_cases h1:xs.length<ys.length
 ·rw [if_pos h1,List.drop_of_length_le (by omega),zdS (xs:=ys) (by omega)];rfl
 ·rw [if_neg h1]
  by_cases h2:xs.length=ys.length
  ·rw [if_pos h2,List.drop_of_length_le (by omega),List.drop_of_length_le (by omega)];rfl
  ·rw [if_neg h2,List.drop_of_length_le (l:=ys) (by omega),zdS (xs:=xs) (by omega)];rfl
def zau (K:Nat)(xs:List Rat):Prop:=∀x ∈ xs,SzQ K x
theorem zau.at_ {K:Nat}{xs:List Rat}(h:zau K xs){k:Nat}(hk:k<xs.length):SzQ K (xs.getD k 0):=by
 rw [List.getD_eq_getElem?_getD,List.getElem?_eq_getElem hk]
 exact h _ (List.getElem_mem hk)
theorem zau.up {K K':Nat}{xs:List Rat}(h:zau K xs)(e:K<=K'):zau K' xs:=λx hx=>(h x hx).up e
theorem zau.zip {K K' L:Nat}{f:Rat->Rat->Rat}(hf:∀x y,SzQ K x->SzQ K' y->SzQ L (f x y)):∀{xs ys:List Rat},zau K xs->zau K' ys->zau L (List.zipWith f xs ys)
 |[],_,_,_=>λx hx=>by cases hx
 |_::_,[],_,_=>λx hx=>by cases hx
 |x::xs,y::ys,h,k=>λz hz=>by
   rw [List.zipWith_cons_cons] at hz
   rcases List.mem_cons.1 hz with rfl|hz
   ·exact hf x y (h x List.mem_cons_self) (k y List.mem_cons_self)
   ·exact zau.zip hf (λa ha=>h a (List.mem_cons_of_mem _ ha)) (λa ha=>k a (List.mem_cons_of_mem _ ha)) z hz
theorem zau.add {K K':Nat}{xs ys:List Rat}(h:zau K xs)(k:zau K' ys):zau (K+K'+1) (addL xs ys):=zau.zip (λ_ _=>SzQ.add) h k
theorem zau.sub {K K':Nat}{xs ys:List Rat}(h:zau K xs)(k:zau K' ys):zau (K+K'+1) (subL xs ys):=zau.zip (λ_ _=>SzQ.sub) h k
theorem zau.mul {K K':Nat}{xs ys:List Rat}(h:zau K xs)(k:zau K' ys):zau (K+K') (mulL xs ys):=zau.zip (λ_ _=>SzQ.mul) h k
theorem zau.addT {K K' L:Nat}{r:Rat}{xs ys:List Rat}(h:zau K xs)(hr:SzQ L r)(k:zau K' ys):zau (K+(L+K')+1) (zib xs r ys):=zau.zip (λ_ _ a b=>a.add (hr.mul b)) h k
theorem zau.scale {K L:Nat}{r:Rat}{xs:List Rat}(hr:SzQ L r)(h:zau K xs):zau (L+K) (zaS r xs):=λx hx=>by
 obtain⟨y,hy,rfl⟩:=List.mem_map.1 hx
 exact hr.mul (h y hy)
theorem zpe {K:Nat}:∀{xs:List Rat},zau K xs->SzQ (1+xs.length*(K+1)) (zdG xs)
 |[],_=>by rw [List.length_nil,Nat.zero_mul];exact SzQ.zero
 |x::xs,h=>by
   rw [zfh]
   exact((h x List.mem_cons_self).add (zpe λa ha=>h a (List.mem_cons_of_mem _ ha))).up (by rw [List.length_cons,Nat.succ_mul];omega)
theorem take_sz {K n:Nat}{xs:List Rat}(h:zau K xs)(hl:xs.length=n)(k:Nat)(hk:k<=n):SzQ (1+n*(K+1)) (zdG (xs.take k)):=by
 have h1:=zpe (xs:=xs.take k) (K:=K) (λa ha=>h a (List.mem_of_mem_take ha))
 refine h1.up ?_
 rw [List.length_take]
 have:min k xs.length*(K+1)<=n*(K+1):=Nat.mul_le_mul_right _ (by omega)
 omega
theorem dot_sz {K K' n:Nat}{xs ys:List Rat}(hx:xs.length=n)(hy:ys.length=n)(h:zau K xs)(k:zau K' ys):SzQ (1+n*(K+K'+1)) (zhi xs ys):=by
 have:=zpe (zau.mul h k)
 rw [show(mulL xs ys).length=n from zpT hx hy] at this
 exact this
theorem zbz {xs:List Rat}{n:Nat}{r:Rat}(hx:xs.length=n):(zaS r xs).length=n:=by unfold zaS;rw [List.length_map];exact hx
set_option maxRecDepth 100000
theorem zht (x y:Nat)(A D:oA9)(n m c d:Nat)(w:World)(hA:zad w x A n c)(hD:zad w y D m d)(hn:n<=274877906944)(hm:m<=274877906944):
  Calls Tryz.prog 160 #[.agg #[.slice A n c],.agg #[.slice D m d]] w (zeR w (x / y) (decide (y≠0))):=by
 by_cases hy:y=0
 ·have e:x / y=0:=by rw [hy,Nat.div_zero]
  have e2:decide (y≠0)=false:=by simp [hy]
  rw [e,e2]
  exact zfO 0 0 false A D n m c d w (λw' hb=>zfP x y A D n m c d w' (hA.below hb) (hD.below hb) hy)
 ·have e2:decide (y≠0)=true:=by simp [hy]
  rw [e2]
  exact zfO (x / y) (x%y) true A D n m c d w (λw' hb=>zem x y A D n m c d w' (hA.below hb) (hD.below hb) (by omega) (by omega) hy)
theorem zol (x y:Nat)(A D:oA9)(n m c d:Nat)(w:World)(hA:zad w x A n c)(hD:zad w y D m d)(hn:n<=1073741824)(hm:m<=1073741824)(hT:zai w):
  Calls Tryz.prog 103 #[.agg #[.slice A n c],.agg #[.slice D m d]] w (zlw w (x / Nat.gcd x y) (y / Nat.gcd x y)):=by
 have HO:=lh9 (λw' (hb:Below w.heap.size w w')=>gcd_of x y A D n m c d w' (hA.below hb) (hD.below hb) hn hm (hT.on hb))
 obtain⟨g,hg⟩:∃g,Nat.gcd x y=g:=⟨_,rfl⟩
 have lg:(dg 18446744073709551616 g).length<=2147483648:=by
  rw [<-hg]
  rcases Nat.eq_zero_or_pos x with e|e
  ·rw [e,Nat.gcd_zero_left,hD.len];omega
  ·exact Nat.le_trans (zbT (by decide) (Nat.gcd_le_left y e)) (by rw [hA.len];omega)
 rw [hg] at HO⊢
 have HDA:=lh9 (λw' (hb:Below w.heap.size w w') A1 n1 c1 (h1:zad w' g A1 n1 c1)=>zht x g A A1 n n1 c c1 w' (hA.below hb) h1 (by omega) (by rw [<-h1.len];omega))
 have HDB:=lh9 (λw' (hb:Below w.heap.size w w') A1 n1 c1 (h1:zad w' g A1 n1 c1)=>zht y g D A1 m n1 d c1 w' (hD.below hb) h1 (by omega) (by rw [<-h1.len];omega))
 obtain⟨X,hX⟩:∃g',x / g=g':=⟨_,rfl⟩
 obtain⟨Y,hY⟩:∃g',y / g=g':=⟨_,rfl⟩
 obtain⟨bb,hbb⟩:∃g':Bool,decide (g≠0)=g':=⟨_,rfl⟩
 rw [hX,hbb] at HDA
 rw [hY,hbb] at HDB
 rw [hX,hY]
 clear hA hD hT hg lg hX hY hbb
 go_enter Tryz.func103,Tryz.ntmps103
 go_wp2_with fail
 obtain⟨b1,b2,b3,b4,b5⟩:=zbL w 37 37 37 #[.slice A n c] #[.slice D m d] #[.slice none 0 0]
 obtain⟨W3,hW3⟩:∃W,((w.alloc (.cells #[.slice A n c] 37)).alloc (.cells #[.slice D m d] 37)).alloc (.cells #[.slice none 0 0] 37)=W:=⟨_,rfl⟩
 rw [hW3] at b1 b2 b3 b4 b5⊢
 have hs3:W3.heap.size=w.heap.size+1+1+1:=by rw [<-hW3];simp
 have kA:=b2.one.alloc (.cells #[.slice none 0 0] 37)
 have kD:=b3.one.alloc (.cells #[.slice none 0 0] 37)
 have kx:=b4.one.alloc (.cells #[.slice none 0 0] 37)
 have ky:=zcf.new W3 37 (.slice none 0 0)
 rw [hs3] at ky
 have hB:=b1.alloc b1.size (.cells #[.slice none 0 0] 37)
 clear b1 b2 b3 b4 b5 hW3 hs3
 generalize W3.alloc (.cells #[.slice none 0 0] 37)=W4 at*
 obtain⟨p,hp⟩:∃p,w.heap.size=p:=⟨_,rfl⟩
 have hpw:w.heap.size<=p:=by omega
 refine(HO.out _ hB).mono ?_
 rw [hp] at kA kD kx ky⊢
 clear hp
 rintro e w1 ⟨A1,n1,c1,rfl,hg1,hb⟩
 obtain⟨d1,d2,d3⟩:=zav w1 37 #[.slice A1 n1 c1]
 have hbb:=zab hb d1
 have kA:=kA.keep hbb
 have kD:=kD.keep hbb
 have kx:=kx.keep hbb
 have ky:=ky.keep hbb
 have hB:=zab hB hbb
 have hg1:=hg1.below d1
 have kg:=d2.one
 clear d1 d2 d3 hb hbb
 have e1:=kA.cell
 have e2:=kg.cell
 go_wp2_with fail
 generalize hW5:w1.alloc (.cells #[.slice A1 n1 c1] 37)=W5 at*
 generalize w1.heap.size=z1 at*
 clear hW5
 refine(HDA.out _ hB A1 n1 c1 hg1).mono ?_
 clear e1 e2
 rintro e w2 ⟨A2,n2,c2,rfl,hx2,hb⟩
 have hz2:=(ky.keep hb).lt
 obtain⟨d1,d2,d3⟩:=zav w2 37 #[.slice A2 n2 c2]
 have hbb:=zab hb d1
 have kD:=kD.keep hbb
 have kx:=kx.keep hbb
 have ky:=ky.keep hbb
 have kg:=kg.keep hbb
 have hB:=zab hB hbb
 have hg1:=hg1.below hbb
 have hx2:=hx2.below d1
 have k7:=d2.one
 clear d1 d2 d3 hb hbb kA
 have e1:=kD.cell
 have e2:=kg.cell
 go_wp2_with fail
 generalize hW6:w2.alloc (.cells #[.slice A2 n2 c2] 37)=W6 at*
 generalize w2.heap.size=z2 at*
 clear hW6
 refine(HDB.out _ hB A1 n1 c1 hg1).mono ?_
 clear e1 e2
 rintro e w3 ⟨A3,n3,c3,rfl,hy3,hb⟩
 have hz3:=(ky.keep hb).lt
 obtain⟨d1,d2,d3⟩:=zav w3 37 #[.slice A3 n3 c3]
 have hbb:=zab hb d1
 have kx:=kx.keep hbb
 have ky:=ky.keep hbb
 have k7:=k7.keep hbb
 have hB:=zab hB hbb
 have hx2:=hx2.below hbb
 have hy3:=hy3.below d1
 have k9:=d2.one
 clear d1 d2 d3 hb hbb kD kg hg1
 go_wp2_with fail
 generalize hW7:w3.alloc (.cells #[.slice A3 n3 c3] 37)=W7 at*
 generalize w3.heap.size=z3 at*
 clear hW7
 have q7:W7.cell? ⟨z2,0,none⟩=some (.slice A2 n2 c2):=k7.cell
 have q9:W7.cell? ⟨z3,0,none⟩=some (.slice A3 n3 c3):=k9.cell
 have qx:W7.cell? ⟨p+1+1,0,none⟩=some (.slice none 0 0):=kx.cell
 have qy:W7.cell? ⟨p+1+1+1,0,none⟩=some (.slice none 0 0):=ky.cell
 have fx:W7.frozen? ⟨p+1+1,0,none⟩=false:=kx.frozen
 have fy:W7.frozen? ⟨p+1+1+1,0,none⟩=false:=ky.frozen
 have q9':=zag (q:=⟨p+1+1,0,none⟩) (.slice A2 n2 c2) (by show z3≠p+1+1;omega) q9
 have kx1:=kx.set_ (.slice A2 n2 c2)
 have ky1:=ky.far (p:=⟨p+1+1,0,none⟩) (by show p+1+1+1≠p+1+1;omega) (.slice A2 n2 c2)
 have qy':=ky1.cell
 have fy':=ky1.frozen
 have hx4:=zao hx2 kx (.slice A2 n2 c2)
 have hy4:=zao hy3 kx (.slice A2 n2 c2)
 have rx:=(kx1.far (p:=⟨p+1+1+1,0,none⟩) (by show p+1+1≠p+1+1+1;omega) (.slice A3 n3 c3)).cell
 have ry:=(ky1.set_ (.slice A3 n3 c3)).cell
 have HE : Hid (zlw w X Y (.returned (.tuple #[.agg #[.slice A2 n2 c2],.agg #[.slice A3 n3 c3]])) ((W7.setCell ⟨p + 1 + 1,0,none⟩ (.slice A2 n2 c2)).setCell ⟨p + 1 + 1 + 1,0,none⟩ (.slice A3 n3 c3)).drew) :=
  ⟨_,_,_,_,_,_,rfl,zao hx4 ky1 _,zao hy4 ky1 _,(hB.setCell (p:=⟨p+1+1,0,none⟩) (by show w.heap.size<=p+1+1;omega) _).setCell (p:=⟨p+1+1+1,0,none⟩) (by show w.heap.size<=p+1+1+1;omega) _|>.drew⟩
 clear k7 k9 kx ky hB hx2 hy3 kx1 ky1 hx4 hy4
 go_region
 all_goals
  go_wp2
  refine bodyPost_ret (v:=.tuple #[.agg #[.slice A2 n2 c2],.agg #[.slice A3 n3 c3]]) (by simp [results,Tryz.results103,go_sem,rx,ry]) rfl ?_
  exact HE.out
set_option linter.unusedSimpArgs false
theorem Sz.of_words {w:World}{x K n c:Nat}{A:oA9}(h:zad w x A n c)(hn:n<=K):Sz K x:=by
 have h1:=zbM (b:=18446744073709551616) (by decide) x
 rw [h.len] at h1
 exact Nat.lt_of_lt_of_le h1 (Nat.pow_le_pow_right (by decide) hn)
theorem zca:GcdC where
 of x y A D n m c d w hA hD hn hm hT:=gcd_of x y A D n m c d w hA hD hn hm hT
 reduce x y A D n m c d w hA hD hn hm hT:=zol x y A D n m c d w hA hD hn hm hT
