/- What this claim leans on. -/
import Derived.Test.YtlgnacmgepnamaaGreatDoorKBunP
namespace Go.Proofs.YtlgnacmgepnamaaGreatDoor
open Go Go.RowKit
set_option maxHeartbeats 16000000
set_option linter.unusedVariables false
abbrev El (α:Type):=World->α->Bool->oA9->Nat->Nat->oA9->Nat->Nat->Prop
def zcx (g:Nat)(w w':World):Prop:=w.heap.size<=w'.heap.size/\∀p:Addr,p.block<w.heap.size->p.block≠g->w'.cell? p=w.cell? p
theorem zcx.of_far {g:Nat}{w w':World}(h:zcV g w w'):zcx g w w':=⟨by rw [h.1];exact Nat.le_refl _,λp _ hp=>h.2 p hp⟩
theorem zcx.of_grown {g:Nat}{w w':World}(h:w.grownBy w' (some g)):zcx g w w':=
 ⟨h.size,λp hp hne=>World.cell?_of_block (h.block p.block hp (λe=>hne (by injection e)))⟩
theorem zdC {w w':World}(h:w.grownBy w' none):Below w.heap.size w w':=(Below.refl _ w).grown h (Nat.le_refl _) (λk e=>by cases e)
theorem ziA {w w':World}{A:oA9}{n g:Nat}{k:IntKind}{l:List Nat}{t:TypeId}{cs:Array Value}(h:zas w w.heap.size 1 A n (zat k l))(hk:Blk w g t cs)(hcs:NoU cs)(ho:zcx g w w'):zas w' w'.heap.size 1 A n (zat k l):=by
 have hne:=zjF h hk hcs
 refine⟨h.1,λhn=>?_⟩
 obtain⟨ad,e,hb,hc⟩:=h.2 hn
 refine⟨ad,e,Nat.lt_of_lt_of_le hb ho.1,λj v hv=>?_⟩
 rw [ho.2 (ad.add j) (by rw [zao];exact hb) (by rw [zao];exact hne hn ad e)]
 exact hc j v hv
theorem ziN {w w':World}{x:Nat}{A:oA9}{n c g:Nat}{t:TypeId}{cs:Array Value}(h:zaf w x A n c)(hk:Blk w g t cs)(hcs:NoU cs)(ho:zcx g w w'):zaf w' x A n c:=⟨ziA h.1 hk hcs ho,h.2⟩
theorem zhZ {w w':World}{x:Nat}{A:oA9}{n c g:Nat}{t:TypeId}{cs:Array Value}(h:zak w x A n c)(hk:Blk w g t cs)(hcs:NoU cs)(ho:zcx g w w'):zak w' x A n c:=⟨ziA h.1 hk hcs ho,h.2⟩
structure zdB {α:Type}(E:El α):Prop where
 below:∀{w w':World} {x:α} {b:Bool} {A:oA9} {n c:Nat} {F:oA9} {k f:Nat},E w x b A n c F k f->Below w.heap.size w w'->E w' x b A n c F k f
 offg:∀{w w':World} {x:α} {b:Bool} {A:oA9} {n c:Nat} {F:oA9} {k f g:Nat} {t:TypeId} {cs:Array Value},E w x b A n c F k f->Blk w g t cs->NoU cs->zcx g w w'->E w' x b A n c F k f
theorem zaq:zdB zan where
 below h hb:=h.below hb
 offg h hk hcs ho:=by
  obtain⟨⟨h1,h2⟩,x,e,h3⟩:=h
  exact⟨⟨h1,ziN h2 hk hcs ho⟩,x,e,ziN h3 hk hcs ho⟩
section
variable {α:Type}{E:El α}
structure zaB (E:El α)(w:World)(A:oA9)(n c:Nat)(xs:List α):Prop where
 len:xs.length=n
 fits:n<=c
 most:c<=9223372036854775807
 num:∀i x,xs[i]?=some x->∃(ad:Addr) (b:Bool) (B:oA9) (m d:Nat) (F:oA9) (u v:Nat),A=some ad/\ad.block<w.heap.size/\w.cell? (ad.add (i*3))=some (.bool b)/\w.cell? (ad.add (i*3+1))=some (.slice B m d)/\w.cell? (ad.add (i*3+2))=some (.slice F u v)/\E w x b B m d F u v
theorem zaB.below (hE:zdB E){w w':World}{A:oA9}{n c:Nat}{xs:List α}(h:zaB E w A n c xs)(hb:Below w.heap.size w w'):zaB E w' A n c xs:=
 ⟨h.len,h.fits,h.most,λi x hi=>by
  obtain⟨ad,b,B,m,d,F,u,v,e,h1,h2,h3,h4,h5⟩:=h.num i x hi
  exact⟨ad,b,B,m,d,F,u,v,e,Nat.lt_of_lt_of_le h1 hb.size,zad hb h2,zad hb h3,zad hb h4,hE.below h5 hb⟩⟩
theorem zaB.nil (w:World):zaB E w none 0 0 []:=⟨rfl,Nat.le_refl _,by decide,λi x hi=>by simp at hi⟩
theorem zaB.at_ {w:World}{A:oA9}{n c:Nat}{xs:List α}(h:zaB E w A n c xs){i:Nat}(hi:i<n)(d0:α):∃(ad:Addr) (b:Bool) (B:oA9) (m d:Nat) (F:oA9) (u v:Nat),A=some ad/\ad.block<w.heap.size/\w.cell? (ad.add (i*3))=some (.bool b)/\w.cell? (ad.add (i*3+1))=some (.slice B m d)/\w.cell? (ad.add (i*3+2))=some (.slice F u v)/\E w (xs.getD i d0) b B m d F u v:=by
 have hl:=h.len
 refine h.num i _ ?_
 rw [List.getD_eq_getElem?_getD,List.getElem?_eq_getElem (by omega)]
 rfl
structure zbm (E:El α)(w:World)(t:TypeId)(g n:Nat)(xs:List α):Prop where
 len:xs.length=n
 blk:∃cs:Array Value,Blk w g t cs/\NoU cs/\cs.size=n*3
 num:∀i x,xs[i]?=some x->∃(b:Bool) (B:oA9) (m d:Nat) (F:oA9) (u v:Nat),w.cell? ⟨g,i*3,none⟩=some (.bool b)/\w.cell? ⟨g,i*3+1,none⟩=some (.slice B m d)/\w.cell? ⟨g,i*3+2,none⟩=some (.slice F u v)/\E w x b B m d F u v
theorem zbm.lt {w:World}{t:TypeId}{g n:Nat}{xs:List α}(h:zbm E w t g n xs):g<w.heap.size:=by
 obtain⟨cs,hk,_⟩:=h.blk
 exact hk.lt
theorem zbm.below (hE:zdB E){w w':World}{t:TypeId}{g n:Nat}{xs:List α}(h:zbm E w t g n xs)(hb:Below w.heap.size w w'):zbm E w' t g n xs:=by
 refine⟨h.len,?_,λi x hi=>?_⟩
 ·obtain⟨cs,hk,h1,h2⟩:=h.blk
  exact⟨cs,zae hb hk,h1,h2⟩
 ·obtain⟨b,B,m,d,F,u,v,h1,h2,h3,h4⟩:=h.num i x hi
  exact⟨b,B,m,d,F,u,v,zad hb h1,zad hb h2,zad hb h3,hE.below h4 hb⟩
theorem zaM (g k:Nat):(⟨g,0,none⟩:Addr).add k=⟨g,k,none⟩:=by unfold Addr.add;split<;>simp_all
theorem zbm.row {w:World}{t:TypeId}{g n:Nat}{xs:List α}(h:zbm E w t g n xs)(hn:n<=9223372036854775807):zaB E w (some ⟨g,0,none⟩) n n xs:=
 ⟨h.len,Nat.le_refl _,hn,λi x hi=>by
  obtain⟨b,B,m,d,F,u,v,h1,h2,h3,h4⟩:=h.num i x hi
  exact⟨_,b,B,m,d,F,u,v,rfl,h.lt,by rw [zaM];exact h1,by rw [zaM];exact h2,by rw [zaM];exact h3,h4⟩⟩
theorem zbm.ready {w:World}{t:TypeId}{g n:Nat}{xs:List α}(h:zbm E w t g n xs){i:Nat}(hi:i<n)(x y:Value):∃a b c:Value,w.cell? ⟨g,i*3,none⟩=some a/\w.frozen? ⟨g,i*3,none⟩=false/\(w.setCell ⟨g,i*3,none⟩ x).cell? ⟨g,i*3+1,none⟩=some b/\(w.setCell ⟨g,i*3,none⟩ x).frozen? ⟨g,i*3+1,none⟩=false/\
  ((w.setCell ⟨g,i*3,none⟩ x).setCell ⟨g,i*3+1,none⟩ y).cell? ⟨g,i*3+2,none⟩=some c/\((w.setCell ⟨g,i*3,none⟩ x).setCell ⟨g,i*3+1,none⟩ y).frozen? ⟨g,i*3+2,none⟩=false:=by
 obtain⟨cs,hk,h1,h2⟩:=h.blk
 have hk1:=hk.set_ (i*3) x
 have hk2:=hk1.set_ (i*3+1) y
 have e0:i*3<cs.size:=by omega
 have e1:i*3+1<(cs.setIfInBounds (i*3) x).size:=by simp;omega
 have e2:i*3+2<((cs.setIfInBounds (i*3) x).setIfInBounds (i*3+1) y).size:=by simp;omega
 exact⟨_,_,_,(hk.cell _).trans (Array.getElem?_eq_getElem e0),hk.frozen _,(hk1.cell _).trans (Array.getElem?_eq_getElem e1),hk1.frozen _,(hk2.cell _).trans (Array.getElem?_eq_getElem e2),hk2.frozen _⟩
theorem zks {cs:Array Value}(h:NoU cs)(i:Nat){v:Value}(hv:∀k z,v≠.int k z):NoU (cs.setIfInBounds i v):=by
 intro u hu
 rw [Array.toList_setIfInBounds] at hu
 rcases List.mem_or_eq_of_mem_set hu with hu|rfl
 ·exact h u hu
 ·exact hv
theorem offg3 (g i j k:Nat)(w:World)(x y z:Value):zcV g w (((w.setCell ⟨g,i,none⟩ x).setCell ⟨g,j,none⟩ y).setCell ⟨g,k,none⟩ z):=(((zcV.refl g w).set_ i x).set_ j y).set_ k z
theorem zbm.set_ (hE:zdB E){w:World}{t:TypeId}{g n:Nat}{xs:List α}(h:zbm E w t g n xs){i:Nat}(hi:i<n){x:α}{b:Bool}{B:oA9}{m d:Nat}{F:oA9}{u v:Nat}(hx:E w x b B m d F u v):
  zbm E (((w.setCell ⟨g,i*3,none⟩ (.bool b)).setCell ⟨g,i*3+1,none⟩ (.slice B m d)).setCell ⟨g,i*3+2,none⟩ (.slice F u v)) t g n (xs.set i x):=by
 obtain⟨cs,hk,h1,h2⟩:=h.blk
 have ho:=zcx.of_far (offg3 g (i*3) (i*3+1) (i*3+2) w (.bool b) (.slice B m d) (.slice F u v))
 have hk3:=((hk.set_ (i*3) (.bool b)).set_ (i*3+1) (.slice B m d)).set_ (i*3+2) (.slice F u v)
 refine⟨by rw [List.length_set];exact h.len,⟨_,hk3,?_,by simp;exact h2⟩,λj y hj=>?_⟩
 ·exact zks (zks (zks h1 _ (λ_ _ e=>by cases e)) _ (λ_ _ e=>by cases e)) _ (λ_ _ e=>by cases e)
 ·by_cases hij:i=j
  ·subst hij
   have hl:=h.len
   rw [List.getElem?_set_self (by omega)] at hj
   injection hj with hj
   subst hj
   refine⟨b,B,m,d,F,u,v,?_,?_,?_,hE.offg hx hk h1 ho⟩
   ·rw [hk3.cell,Array.getElem?_setIfInBounds_ne (by omega),Array.getElem?_setIfInBounds_ne (by omega),Array.getElem?_setIfInBounds_self_of_lt (by omega)]
   ·rw [hk3.cell,Array.getElem?_setIfInBounds_ne (by omega),Array.getElem?_setIfInBounds_self_of_lt (by simp;omega)]
   ·rw [hk3.cell,Array.getElem?_setIfInBounds_self_of_lt (by simp;omega)]
  ·rw [List.getElem?_set_ne hij] at hj
   obtain⟨b',B',m',d',F',u',v',c1,c2,c3,c4⟩:=h.num j y hj
   refine⟨b',B',m',d',F',u',v',?_,?_,?_,hE.offg c4 hk h1 ho⟩
   ·rw [hk3.cell,Array.getElem?_setIfInBounds_ne (by omega),Array.getElem?_setIfInBounds_ne (by omega),Array.getElem?_setIfInBounds_ne (by omega),<-hk.cell];exact c1
   ·rw [hk3.cell,Array.getElem?_setIfInBounds_ne (by omega),Array.getElem?_setIfInBounds_ne (by omega),Array.getElem?_setIfInBounds_ne (by omega),<-hk.cell];exact c2
   ·rw [hk3.cell,Array.getElem?_setIfInBounds_ne (by omega),Array.getElem?_setIfInBounds_ne (by omega),Array.getElem?_setIfInBounds_ne (by omega),<-hk.cell];exact c3
end
theorem zbr (z:Array Value)(n j:Nat)(h:j<n):(madeCells z n)[j]?=some z[j%z.size]!:=by
 unfold madeCells
 rw [Array.getElem?_map,Array.getElem?_eq_getElem (by simpa using h)]
 simp
def zfH:Array Value:=#[.bool false,.slice none 0 0,.slice none 0 0]
theorem zpV (n:Nat):NoU (madeCells zfH n):=by
 intro v hv k z e
 rw [Array.mem_toList_iff,Array.mem_iff_getElem?] at hv
 obtain⟨j,hj⟩:=hv
 have hlt:j<n:=by
  have:=(Array.getElem?_eq_some_iff.1 hj).1
  rwa [size_madeCells] at this
 rw [zbr _ _ _ hlt] at hj
 have h3:j%3=0\/j%3=1\/j%3=2:=by omega
 rw [show zfH.size=3 from rfl] at hj
 subst e
 rcases h3 with h3|h3|h3<;>rw [h3] at hj<;>simp [zfH] at hj
theorem zbm.made {α:Type}{E:El α}(w:World)(t:TypeId)(n:Nat)(z0:α)(hz:∀w',E w' z0 false none 0 0 none 0 0):zbm E (w.alloc (.cells (madeCells zfH (n*3)) t)) t w.heap.size n (List.replicate n z0):=by
 have hk:=Blk.new w t (madeCells zfH (n*3))
 refine⟨by simp,⟨_,hk,zpV _,size_madeCells _ _⟩,λi x hi=>?_⟩
 have hlt:i<n:=by
  have:=(List.getElem?_eq_some_iff.1 hi).1
  simpa using this
 obtain rfl:z0=x:=by
  rw [List.getElem?_replicate,if_pos hlt] at hi
  injection hi
 have e0:(i*3)%3=0:=by omega
 have e1:(i*3+1)%3=1:=by omega
 have e2:(i*3+2)%3=2:=by omega
 refine⟨false,none,0,0,none,0,0,?_,?_,?_,hz _⟩
 ·rw [hk.cell,zbr _ _ _ (by omega),show zfH.size=3 from rfl,e0];rfl
 ·rw [hk.cell,zbr _ _ _ (by omega),show zfH.size=3 from rfl,e1];rfl
 ·rw [hk.cell,zbr _ _ _ (by omega),show zfH.size=3 from rfl,e2];rfl
def zbV {α:Type}(z0:α)(ys:List α)(n i:Nat):List α:=ys.take i++List.replicate (n - i) z0
theorem zby {α:Type}(z0:α)(ys:List α)(n:Nat):zbV z0 ys n 0=List.replicate n z0:=by simp [zbV]
theorem zbM {α:Type}(z0:α)(ys:List α)(n:Nat)(h:ys.length=n):zbV z0 ys n n=ys:=by simp [zbV,<-h]
theorem zbN {α:Type}(z0:α)(ys:List α)(n i:Nat)(hl:ys.length=n)(hi:i<n)(y:α)(hy:ys[i]?=some y):(zbV z0 ys n i).set i y=zbV z0 ys n (i+1):=by
 unfold zbV
 have hlt:i<ys.length:=by omega
 have e:(ys.take i).length=i:=by rw [List.length_take];omega
 rw [List.set_append_right _ _ (by omega),e,Nat.sub_self,List.take_succ_eq_append_getElem hlt,List.append_assoc]
 congr 1
 obtain⟨m,hm⟩:∃m,n - i=m+1:=⟨n - i - 1,by omega⟩
 have hm2:n - (i+1)=m:=by omega
 rw [hm,hm2,List.replicate_succ]
 have hv:ys[i]=y:=by rw [List.getElem?_eq_getElem hlt] at hy;injection hy
 rw [hv]
 rfl
theorem zhm (w:World):zaf w 0 none 0 0:=by
 refine⟨⟨by rw [show dg 18446744073709551616 0=[] from by rw [dg];rfl];rfl,λh=>absurd h (by decide)⟩,Nat.le_refl _,by decide⟩
theorem zdK (w:World):zan w (0:Rat) false none 0 0 none 0 0:=⟨⟨rfl,zhm w⟩,⟨0,⟨rfl,by decide⟩,zhm w⟩⟩
abbrev zaK (w:World)(A:oA9)(n c:Nat)(xs:List Rat):Prop:=zaB zan w A n c xs
abbrev zbZ (w:World)(g n:Nat)(xs:List Rat):Prop:=zbm zan w 48 g n xs
theorem zaK.keep {w w':World}{A:oA9}{n c:Nat}{xs:List Rat}(h:zaK w A n c xs)(hb:Below w.heap.size w w'):zaK w' A n c xs:=zaB.below zaq h hb
theorem zbZ.keep {w w':World}{g n:Nat}{xs:List Rat}(h:zbZ w g n xs)(hb:Below w.heap.size w w'):zbZ w' g n xs:=zbm.below zaq h hb
def zeL (w:World)(n:Nat)(xs:List Rat)(e:Ending)(w':World):Prop:=∃g,e=.returned (.slice (some ⟨g,0,none⟩) n n)/\w.heap.size<=g/\zbZ w' g n xs/\Below w.heap.size w w'
def zci (w:World)(n:Nat)(xs:List Rat)(e:Ending)(w':World):Prop:=∃g,e=.returned (.tuple #[.slice (some ⟨g,0,none⟩) n n,.bool true])/\w.heap.size<=g/\zbZ w' g n xs/\Below w.heap.size w w'
def zge (w:World)(e:Ending)(w':World):Prop:=e=.returned (.tuple #[.slice none 0 0,.bool false])/\Below w.heap.size w w'
theorem own_make (w:World)(n:Nat):zbZ (w.alloc (.cells (madeCells zfH (n*3)) 48)) w.heap.size n (List.replicate n 0):=zbm.made w _ n 0 zdK
theorem info10:(Tryz.prog.info? 48).map (λi=>(i.zero,i.size,i.bytes))=some (some (.agg #[.bool false,.slice none 0 0,.slice none 0 0]),3,56):=by kernel_rfl
theorem zgl {w:World}{ad:Addr}{k:Nat}{v:Value}(h:w.cell? (ad.add (k+1))=some v):w.cell? ⟨(ad.add k).block,(ad.add k).off+1,none⟩=some v:=by
 rw [<-zfJ] at h
 exact h
theorem znS {w:World}{ad:Addr}{k:Nat}{v:Value}(h:w.cell? (ad.add (k+2))=some v):w.cell? ⟨(ad.add k).block,(ad.add k).off+2,none⟩=some v:=by
 rw [<-zfJ] at h
 exact h
theorem zef (n:Nat)(hn:n<=1099511627776):∃Z:Array Value,∀W:World,(Instr.makeSlice 51 (.int .i64 (n:Int)) (.int .i64 (n:Int))).run Tryz.prog W=.ok (.slice (some ⟨W.heap.size,0,none⟩) n n) (W.alloc (.cells Z 48))/\zbZ (W.alloc (.cells Z 48)) W.heap.size n (List.replicate n 0):=by
 obtain⟨i0,hi0,hz0,hz1,hz2⟩:=info_parts info10
 refine⟨madeCells zfH (n*3),λW=>⟨?_,own_make W n⟩⟩
 have h:=zaP (P:=Tryz.prog) _ _ i0 _ Tryz.underlying51 hi0 hz0 .i64 .i64 n n (Nat.le_refl _) (by rw [hz2];omega) (by omega) W
 rw [hz1] at h
 exact h
theorem zaK.get {w wr:World}{A:oA9}{n c:Nat}{xs:List Rat}(h:zaK w A n c xs)(hb:Below w.heap.size w wr){i:Nat}(hi:i<n):∃(ad:Addr) (b:Bool) (B:oA9) (m d:Nat) (F:oA9) (u v:Nat),A=some ad/\ad.block<w.heap.size/\wr.cell? (ad.add (i*3))=some (.bool b)/\wr.cell? ⟨(ad.add (i*3)).block,(ad.add (i*3)).off+1,none⟩=some (.slice B m d)/\wr.cell? ⟨(ad.add (i*3)).block,(ad.add (i*3)).off+2,none⟩=some (.slice F u v)/\zan wr (xs.getD i 0) b B m d F u v:=by
 obtain⟨ad,b,B,m,d,F,u,v,e,h0,h1,h2,h3,h4⟩:=h.at_ hi 0
 exact⟨ad,b,B,m,d,F,u,v,e,h0,zad hb h1,zad hb (zgl h2),zad hb (znS h3),h4.below hb⟩
theorem off_add {ad:Addr}{k g:Nat}(h:ad.block≠g):(ad.add k).block≠g:=by rw [zao];exact h
theorem zcb {w W:World}{g:Nat}(i j k:Nat)(x y z:Value)(hg:w.heap.size<=g)(h:Below w.heap.size w W):Below w.heap.size w (((W.setCell ⟨g,i,none⟩ x).setCell ⟨g,j,none⟩ y).setCell ⟨g,k,none⟩ z):=zag z hg (zag y hg (zag x hg h))
set_option maxRecDepth 100000
set_option linter.unusedSimpArgs false
theorem szh {K B x n c:Nat}{A:oA9}{w:World}(h:Hid (Sz K x))(k:zak w x A n c)(e:4*K<=B:=by omega):n<=B:=Nat.le_trans (h.out.holds' k) e
theorem zjp {w w':World}{x:Nat}{A:oA9}{n c g:Nat}{t:TypeId}{cs:Array Value}(h:zak w x A n c)(hk:Blk w g t cs)(hcs:NoU cs)(ho:zcV g w w'):zak w' x A n c:=⟨zjG h.1 hk hcs ho,h.2⟩
theorem ref_off {w w':World}{z:Int}{b:Bool}{A:oA9}{n c g:Nat}{t:TypeId}{cs:Array Value}(h:zbQ w z b A n c)(hk:Blk w g t cs)(hcs:NoU cs)(ho:zcV g w w'):zbQ w' z b A n c:=⟨h.1,zjp h.2 hk hcs ho⟩
theorem zkm {T:World->Prop}(hTb:∀w w',T w->Below w.heap.size w w'->T w')(IC:IntC T)(z:Int)(bp:Bool)(Bp:oA9)(mp dp:Nat)(bq:Bool)(Bq:oA9)(mq dq:Nat)(K:Nat)(hKK:K<=16777216)(w:World)(sz:Sz K z.natAbs)(hp:zaC w z bp Bp mp dp)(hq:zbQ w z bq Bq mq dq)(hT:T w)(h:z<0):
  Calls Tryz.prog 95 #[.agg #[.bool bp,.slice Bp mp dp],.agg #[.bool bq,.slice Bq mq dq]] w λe w'=>e=.returned (.bool true)/\Below w.heap.size w w':=by
 have HIC:=lh9 IC
 have HT:=lh9 (λw' (hb:Below w.heap.size w w')=>hTb w w' hT hb)
 have HNp:=lh9 hp
 have HNq:=lh9 hq
 have HZp:=lh9 sz
 have HZq:=lh9 sz
 have Hh:=lh9 h
 clear IC hT hp hq sz h
 go_enter Tryz.func95,Tryz.ntmps95
 have hB:=Below.refl w.heap.size w
 obtain rfl:bq=true:=(HNq.out).1.trans (decide_eq_true (by have:=Hh.out;omega))
 obtain⟨bx1,bx2,bx3,bz⟩:=zbe w 46 92 #[.bool bp,.slice Bp mp dp] #[.bool true,.slice Bq mq dq]
 have hB:=zac hB bx1
 have HNp:=lh9 (HNp.out.below bx1)
 have HNq:=lh9 (HNq.out.below bx1)
 obtain⟨g1,e1⟩:=bx2.c2
 obtain⟨g2,e2⟩:=bx3.c2
 clear bx1 bx2 bx3 bz
 go_wp2_with fail
 generalize (w.alloc (.cells #[.bool bp,.slice Bp mp dp] 46)).alloc (.cells #[.bool true,.slice Bq mq dq] 92)=W1 at*
 have C0:=lh9 (λw' (h:Below W1.heap.size W1 w')=>zgL (b:=true) (decide_eq_true (by have:=Hh.out;omega)) (HIC.out.belowI (z) bp Bp mp dp w' (HT.out _ (zac hB h)) (HNp.out.below h) (by have:=Sz.words HZp.out HNp.out.words;omega)))
 have C1:=lh9 (λw' (h:Below W1.heap.size W1 w')=>zkj (v:=-1) ((sgn_neg Hh.out)) (HIC.out.sign (z) bp Bp mp dp w' (HT.out _ (zac hB h)) (HNp.out.below h) (by have:=Sz.words HZp.out HNp.out.words;omega)))
 have HZ3:Hid (Sz (K) (z.natAbs)):=HZp.out
 have C2:=lh9 (λw' (h:Below W1.heap.size W1 w')=>HIC.out.abs (z) bp Bp mp dp w' (HT.out _ (zac hB h)) (HNp.out.below h) (by have:=Sz.words HZp.out HNp.out.words;omega))
 have C3:=lh9 (λw' (h:Below W1.heap.size W1 w') B3 m3 d3 (hw3:zaf w' (z.natAbs) B3 m3 d3)=>zdA (z.natAbs) B3 Bq m3 d3 mq dq w' hw3 (HNq.out.below h).2 (by have:=Sz.words HZ3.out hw3;omega) (by have:=Sz.holds' HZq.out HNq.out.2;omega))
 have hBw:=(Below.refl W1.heap.size W1).drew
 refine rg (csc g1 (csc e1 (csc g2 (csc e2 csn)))) (λhHeld=>?_)
 refine tk 0 ?_
 refine tk 2 ?_
 refine tk 3 ?_
 refine rc 1 (λK hK=>?_)
 go_simp
 go_at_call 123;(with_reducible refine(C0.out _ hBw).mono ?_);rintro e wa2 ⟨rfl,hb⟩;have hBw:=zac hBw hb;refine hK.out _ _ (Cs.below hHeld hb) (λhHeld=>?_);clear hK K hb
 try simp only [sb9]
 refine tk 4 ?_
 refine tk 5 ?_
 refine tk 6 ?_
 refine tk 8 ?_
 refine rc 7 (λK hK=>?_)
 go_simp
 go_at_call 108;(with_reducible refine(C1.out _ hBw).mono ?_);rintro e wa3 ⟨rfl,hb⟩;have hBw:=zac hBw hb;refine hK.out _ _ (Cs.below hHeld hb) (λhHeld=>?_);clear hK K hb
 try simp only [sb9]
 refine tk 9 ?_
 refine tk 10 ?_
 refine tk 11 ?_
 refine tk 12 ?_
 refine tk 14 ?_
 refine tk 15 ?_
 refine rc 13 (λK hK=>?_)
 go_simp
 go_at_call 117;(with_reducible refine(C2.out _ hBw).mono ?_);rintro e wa4 ⟨B3,m3,d3,rfl,hw3,hb⟩;have hBw:=zac hBw hb;refine hK.out _ _ (Cs.below hHeld hb) (λhHeld=>?_);clear hK K hb
 try simp only [sb9]
 refine rc 16 (λK hK=>?_)
 go_simp
 go_at_call 96;(with_reducible refine(C3.out _ hBw _ _ _ hw3).mono ?_);rintro e wa5 ⟨rfl,hb⟩;have hBw:=zac hBw hb;have hw3:=hw3.below hb;refine hK.out _ _ (Cs.below hHeld hb) (λhHeld=>?_);clear hK K hb
 try simp only [sb9]
 refine tk 17 ?_
 refine tk 18 ?_
 refine rdn ?_
 have hB:=zac hB hBw
 have g1:=zad hBw g1
 have e1:=zad hBw e1
 have g2:=zad hBw g2
 have e2:=zad hBw e2
 clear hBw hHeld hw3 C0 C1 C2 C3
 go_wp2
 go_ret
 exact⟨by first|rfl|simp,hB⟩
theorem zkk {T:World->Prop}(hTb:∀w w',T w->Below w.heap.size w w'->T w')(IC:IntC T)(z:Int)(bp:Bool)(Bp:oA9)(mp dp:Nat)(bq:Bool)(Bq:oA9)(mq dq:Nat)(K:Nat)(hKK:K<=16777216)(w:World)(sz:Sz K z.natAbs)(hp:zaC w z bp Bp mp dp)(hq:zbQ w z bq Bq mq dq)(hT:T w)(h:z=0):
  Calls Tryz.prog 95 #[.agg #[.bool bp,.slice Bp mp dp],.agg #[.bool bq,.slice Bq mq dq]] w λe w'=>e=.returned (.bool true)/\Below w.heap.size w w':=by
 have HIC:=lh9 IC
 have HT:=lh9 (λw' (hb:Below w.heap.size w w')=>hTb w w' hT hb)
 have HNp:=lh9 hp
 have HNq:=lh9 hq
 have HZp:=lh9 sz
 have HZq:=lh9 sz
 have Hh:=lh9 h
 clear IC hT hp hq sz h
 go_enter Tryz.func95,Tryz.ntmps95
 have hB:=Below.refl w.heap.size w
 obtain rfl:bq=false:=(HNq.out).1.trans (decide_eq_false (by have:=Hh.out;omega))
 have hqq:=zhX (HNq.out).2 (by have:=Hh.out;omega)
 have hrq:((mq:Int)==0)=true:=by rw [beq_iff_eq];omega
 clear hqq
 obtain⟨bx1,bx2,bx3,bz⟩:=zbe w 46 92 #[.bool bp,.slice Bp mp dp] #[.bool false,.slice Bq mq dq]
 have hB:=zac hB bx1
 have HNp:=lh9 (HNp.out.below bx1)
 have HNq:=lh9 (HNq.out.below bx1)
 obtain⟨g1,e1⟩:=bx2.c2
 obtain⟨g2,e2⟩:=bx3.c2
 clear bx1 bx2 bx3 bz
 go_wp2_with fail
 generalize (w.alloc (.cells #[.bool bp,.slice Bp mp dp] 46)).alloc (.cells #[.bool false,.slice Bq mq dq] 92)=W1 at*
 have C0:=lh9 (λw' (h:Below W1.heap.size W1 w')=>zgL (b:=false) (decide_eq_false (by have:=Hh.out;omega)) (HIC.out.belowI (z) bp Bp mp dp w' (HT.out _ (zac hB h)) (HNp.out.below h) (by have:=Sz.words HZp.out HNp.out.words;omega)))
 have C1:=lh9 (λw' (h:Below W1.heap.size W1 w')=>zkj (v:=0) (((sgnZ_eq _).2 Hh.out)) (HIC.out.sign (z) bp Bp mp dp w' (HT.out _ (zac hB h)) (HNp.out.below h) (by have:=Sz.words HZp.out HNp.out.words;omega)))
 have HZ3:Hid (Sz (K) (z.natAbs)):=HZp.out
 have C2:=lh9 (λw' (h:Below W1.heap.size W1 w')=>HIC.out.abs (z) bp Bp mp dp w' (HT.out _ (zac hB h)) (HNp.out.below h) (by have:=Sz.words HZp.out HNp.out.words;omega))
 have C3:=lh9 (λw' (h:Below W1.heap.size W1 w') B3 m3 d3 (hw3:zaf w' (z.natAbs) B3 m3 d3)=>zdA (z.natAbs) B3 Bq m3 d3 mq dq w' hw3 (HNq.out.below h).2 (by have:=Sz.words HZ3.out hw3;omega) (by have:=Sz.holds' HZq.out HNq.out.2;omega))
 have hBw:=(Below.refl W1.heap.size W1).drew
 refine rg (csc g1 (csc e1 (csc g2 (csc e2 csn)))) (λhHeld=>?_)
 refine tk 0 ?_
 refine tk 2 ?_
 refine tk 3 ?_
 refine rc 1 (λK hK=>?_)
 go_simp
 go_at_call 123;(with_reducible refine(C0.out _ hBw).mono ?_);rintro e wa2 ⟨rfl,hb⟩;have hBw:=zac hBw hb;refine hK.out _ _ (Cs.below hHeld hb) (λhHeld=>?_);clear hK K hb
 try simp only [sb9]
 refine tk 4 ?_
 refine tk 5 ?_
 refine tk 6 ?_
 refine tk 8 ?_
 refine rc 7 (λK hK=>?_)
 go_simp
 go_at_call 108;(with_reducible refine(C1.out _ hBw).mono ?_);rintro e wa3 ⟨rfl,hb⟩;have hBw:=zac hBw hb;refine hK.out _ _ (Cs.below hHeld hb) (λhHeld=>?_);clear hK K hb
 try simp only [sb9]
 refine tk 9 ?_
 refine tk 10 ?_
 refine tk 11 ?_
 refine tk 12 ?_
 refine tk 14 ?_
 refine tk 15 ?_
 refine rc 13 (λK hK=>?_)
 go_simp
 go_at_call 117;(with_reducible refine(C2.out _ hBw).mono ?_);rintro e wa4 ⟨B3,m3,d3,rfl,hw3,hb⟩;have hBw:=zac hBw hb;refine hK.out _ _ (Cs.below hHeld hb) (λhHeld=>?_);clear hK K hb
 try simp only [sb9]
 refine rc 16 (λK hK=>?_)
 go_simp
 go_at_call 96;(with_reducible refine(C3.out _ hBw _ _ _ hw3).mono ?_);rintro e wa5 ⟨rfl,hb⟩;have hBw:=zac hBw hb;have hw3:=hw3.below hb;refine hK.out _ _ (Cs.below hHeld hb) (λhHeld=>?_);clear hK K hb
 try simp only [sb9]
 refine tk 17 ?_
 refine tk 18 ?_
 refine rdn ?_
 have hB:=zac hB hBw
 have g1:=zad hBw g1
 have e1:=zad hBw e1
 have g2:=zad hBw g2
 have e2:=zad hBw e2
 clear hBw hHeld hw3 C0 C1 C2 C3
 go_wp2
 go_ret
 exact⟨by first|rfl|simp,hB⟩
theorem zkl {T:World->Prop}(hTb:∀w w',T w->Below w.heap.size w w'->T w')(IC:IntC T)(z:Int)(bp:Bool)(Bp:oA9)(mp dp:Nat)(bq:Bool)(Bq:oA9)(mq dq:Nat)(K:Nat)(hKK:K<=16777216)(w:World)(sz:Sz K z.natAbs)(hp:zaC w z bp Bp mp dp)(hq:zbQ w z bq Bq mq dq)(hT:T w)(h:0<z):
  Calls Tryz.prog 95 #[.agg #[.bool bp,.slice Bp mp dp],.agg #[.bool bq,.slice Bq mq dq]] w λe w'=>e=.returned (.bool true)/\Below w.heap.size w w':=by
 have HIC:=lh9 IC
 have HT:=lh9 (λw' (hb:Below w.heap.size w w')=>hTb w w' hT hb)
 have HNp:=lh9 hp
 have HNq:=lh9 hq
 have HZp:=lh9 sz
 have HZq:=lh9 sz
 have Hh:=lh9 h
 clear IC hT hp hq sz h
 go_enter Tryz.func95,Tryz.ntmps95
 have hB:=Below.refl w.heap.size w
 obtain rfl:bq=false:=(HNq.out).1.trans (decide_eq_false (by have:=Hh.out;omega))
 have hqq:=zkf (HNq.out).2 (by have:=Hh.out;omega)
 have hrq:((mq:Int)==0)=false:=by rw [beq_eq_false_iff_ne];omega
 clear hqq
 obtain⟨bx1,bx2,bx3,bz⟩:=zbe w 46 92 #[.bool bp,.slice Bp mp dp] #[.bool false,.slice Bq mq dq]
 have hB:=zac hB bx1
 have HNp:=lh9 (HNp.out.below bx1)
 have HNq:=lh9 (HNq.out.below bx1)
 obtain⟨g1,e1⟩:=bx2.c2
 obtain⟨g2,e2⟩:=bx3.c2
 clear bx1 bx2 bx3 bz
 go_wp2_with fail
 generalize (w.alloc (.cells #[.bool bp,.slice Bp mp dp] 46)).alloc (.cells #[.bool false,.slice Bq mq dq] 92)=W1 at*
 have C0:=lh9 (λw' (h:Below W1.heap.size W1 w')=>zgL (b:=false) (decide_eq_false (by have:=Hh.out;omega)) (HIC.out.belowI (z) bp Bp mp dp w' (HT.out _ (zac hB h)) (HNp.out.below h) (by have:=Sz.words HZp.out HNp.out.words;omega)))
 have C1:=lh9 (λw' (h:Below W1.heap.size W1 w')=>zkj (v:=1) ((sgn_pos Hh.out)) (HIC.out.sign (z) bp Bp mp dp w' (HT.out _ (zac hB h)) (HNp.out.below h) (by have:=Sz.words HZp.out HNp.out.words;omega)))
 have HZ3:Hid (Sz (K) (z.natAbs)):=HZp.out
 have C2:=lh9 (λw' (h:Below W1.heap.size W1 w')=>HIC.out.abs (z) bp Bp mp dp w' (HT.out _ (zac hB h)) (HNp.out.below h) (by have:=Sz.words HZp.out HNp.out.words;omega))
 have C3:=lh9 (λw' (h:Below W1.heap.size W1 w') B3 m3 d3 (hw3:zaf w' (z.natAbs) B3 m3 d3)=>zdA (z.natAbs) B3 Bq m3 d3 mq dq w' hw3 (HNq.out.below h).2 (by have:=Sz.words HZ3.out hw3;omega) (by have:=Sz.holds' HZq.out HNq.out.2;omega))
 have hBw:=(Below.refl W1.heap.size W1).drew
 refine rg (csc g1 (csc e1 (csc g2 (csc e2 csn)))) (λhHeld=>?_)
 refine tk 0 ?_
 refine tk 2 ?_
 refine tk 3 ?_
 refine rc 1 (λK hK=>?_)
 go_simp
 go_at_call 123;(with_reducible refine(C0.out _ hBw).mono ?_);rintro e wa2 ⟨rfl,hb⟩;have hBw:=zac hBw hb;refine hK.out _ _ (Cs.below hHeld hb) (λhHeld=>?_);clear hK K hb
 try simp only [sb9]
 refine tk 4 ?_
 refine tk 5 ?_
 refine tk 6 ?_
 refine tk 8 ?_
 refine rc 7 (λK hK=>?_)
 go_simp
 go_at_call 108;(with_reducible refine(C1.out _ hBw).mono ?_);rintro e wa3 ⟨rfl,hb⟩;have hBw:=zac hBw hb;refine hK.out _ _ (Cs.below hHeld hb) (λhHeld=>?_);clear hK K hb
 try simp only [sb9]
 refine tk 9 ?_
 refine tk 10 ?_
 refine tk 11 ?_
 refine tk 12 ?_
 refine tk 14 ?_
 refine tk 15 ?_
 refine rc 13 (λK hK=>?_)
 go_simp
 go_at_call 117;(with_reducible refine(C2.out _ hBw).mono ?_);rintro e wa4 ⟨B3,m3,d3,rfl,hw3,hb⟩;have hBw:=zac hBw hb;refine hK.out _ _ (Cs.below hHeld hb) (λhHeld=>?_);clear hK K hb
 try simp only [sb9]
 refine rc 16 (λK hK=>?_)
 go_simp
 go_at_call 96;(with_reducible refine(C3.out _ hBw _ _ _ hw3).mono ?_);rintro e wa5 ⟨rfl,hb⟩;have hBw:=zac hBw hb;have hw3:=hw3.below hb;refine hK.out _ _ (Cs.below hHeld hb) (λhHeld=>?_);clear hK K hb
 try simp only [sb9]
 refine tk 17 ?_
 refine tk 18 ?_
 refine rdn ?_
 have hB:=zac hB hBw
 have g1:=zad hBw g1
 have e1:=zad hBw e1
 have g2:=zad hBw g2
 have e2:=zad hBw e2
 clear hBw hHeld hw3 C0 C1 C2 C3
 go_wp2
 go_ret
 exact⟨by first|rfl|simp,hB⟩
theorem zgM {T:World->Prop}(hTb:∀w w',T w->Below w.heap.size w w'->T w')(IC:IntC T)(z:Int)(bp:Bool)(Bp:oA9)(mp dp:Nat)(bq:Bool)(Bq:oA9)(mq dq:Nat)(K:Nat)(hKK:K<=16777216)(w:World)(sz:Sz K z.natAbs)(hp:zaC w z bp Bp mp dp)(hq:zbQ w z bq Bq mq dq)(hT:T w):
  Calls Tryz.prog 95 #[.agg #[.bool bp,.slice Bp mp dp],.agg #[.bool bq,.slice Bq mq dq]] w λe w'=>e=.returned (.bool true)/\Below w.heap.size w w':=by
 rcases Int.lt_trichotomy z 0 with h|h|h
 ·exact zkm hTb IC z bp Bp mp dp bq Bq mq dq K hKK w sz hp hq hT h
 ·exact zkk hTb IC z bp Bp mp dp bq Bq mq dq K hKK w sz hp hq hT h
 ·exact zkl hTb IC z bp Bp mp dp bq Bq mq dq K hKK w sz hp hq hT h
