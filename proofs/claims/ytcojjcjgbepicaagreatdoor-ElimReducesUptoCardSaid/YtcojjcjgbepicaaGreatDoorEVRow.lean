/- What this claim leans on. -/
import Derived.Test.YtcojjcjgbepicaaGreatDoorEW8Far
import Derived.Laws.AppendOwn
namespace Go.Proofs.YtcojjcjgbepicaaGreatDoor
open Go Go.RowKit
set_option maxHeartbeats 16000000
set_option linter.unusedVariables false
abbrev El (α:Type):=World->α->Bool->oA9->Nat->Nat->oA9->Nat->Nat->Prop
def zbe (g:Nat)(w w':World):Prop:=w.heap.size<=w'.heap.size/\∀p:Addr,p.block<w.heap.size->p.block≠g->w'.cell? p=w.cell? p
theorem zbe.of_far {g:Nat}{w w':World}(h:zba g w w'):zbe g w w':=⟨by rw [h.1];exact Nat.le_refl _,λp _ hp=>h.2 p hp⟩
theorem zbe.of_grown {g:Nat}{w w':World}(h:w.grownBy w' (some g)):zbe g w w':=
 ⟨h.size,λp hp hne=>World.cell?_of_block (h.block p.block hp (λe=>hne (by injection e)))⟩
theorem zbj {w w':World}(h:w.grownBy w' none):Below w.heap.size w w':=(Below.refl _ w).grown h (Nat.le_refl _) (λk e=>by cases e)
theorem ziP {w w':World}{A:oA9}{n g:Nat}{k:IntKind}{l:List Nat}{t:TypeId}{cs:Array Value}(h:zar w w.heap.size 1 A n (zax k l))(hk:Blk w g t cs)(hcs:NoU cs)(ho:zbe g w w'):zar w' w'.heap.size 1 A n (zax k l):=by
 have hne:=zjM h hk hcs
 refine⟨h.1,λhn=>?_⟩
 obtain⟨ad,e,hb,hc⟩:=h.2 hn
 refine⟨ad,e,Nat.lt_of_lt_of_le hb ho.1,λj v hv=>?_⟩
 rw [ho.2 (ad.add j) (by rw [zao];exact hb) (by rw [zao];exact hne hn ad e)]
 exact hc j v hv
theorem zjf {w w':World}{x:Nat}{A:oA9}{n c g:Nat}{t:TypeId}{cs:Array Value}(h:zad w x A n c)(hk:Blk w g t cs)(hcs:NoU cs)(ho:zbe g w w'):zad w' x A n c:=⟨ziP h.1 hk hcs ho,h.2⟩
theorem ziu {w w':World}{x:Nat}{A:oA9}{n c g:Nat}{t:TypeId}{cs:Array Value}(h:zdh w x A n c)(hk:Blk w g t cs)(hcs:NoU cs)(ho:zbe g w w'):zdh w' x A n c:=⟨ziP h.1 hk hcs ho,h.2⟩
structure zdC {α:Type}(E:El α):Prop where
 below:∀{w w':World} {x:α} {b:Bool} {A:oA9} {n c:Nat} {F:oA9} {k f:Nat},E w x b A n c F k f->Below w.heap.size w w'->E w' x b A n c F k f
 offg:∀{w w':World} {x:α} {b:Bool} {A:oA9} {n c:Nat} {F:oA9} {k f g:Nat} {t:TypeId} {cs:Array Value},E w x b A n c F k f->Blk w g t cs->NoU cs->zbe g w w'->E w' x b A n c F k f
theorem zaf:zdC zai where
 below h hb:=h.below hb
 offg h hk hcs ho:=by
  obtain⟨⟨h1,h2⟩,x,e,h3⟩:=h
  exact⟨⟨h1,zjf h2 hk hcs ho⟩,x,e,zjf h3 hk hcs ho⟩
section
variable {α:Type}{E:El α}
structure zaN (E:El α)(w:World)(A:oA9)(n c:Nat)(xs:List α):Prop where
 len:xs.length=n
 fits:n<=c
 most:c<=9223372036854775807
 num:∀i x,xs[i]?=some x->∃(ad:Addr) (b:Bool) (B:oA9) (m d:Nat) (F:oA9) (u v:Nat),A=some ad/\ad.block<w.heap.size/\w.cell? (ad.add (i*3))=some (.bool b)/\w.cell? (ad.add (i*3+1))=some (.slice B m d)/\w.cell? (ad.add (i*3+2))=some (.slice F u v)/\E w x b B m d F u v
theorem zaN.below (hE:zdC E){w w':World}{A:oA9}{n c:Nat}{xs:List α}(h:zaN E w A n c xs)(hb:Below w.heap.size w w'):zaN E w' A n c xs:=
 ⟨h.len,h.fits,h.most,λi x hi=>by
  obtain⟨ad,b,B,m,d,F,u,v,e,h1,h2,h3,h4,h5⟩:=h.num i x hi
  exact⟨ad,b,B,m,d,F,u,v,e,Nat.lt_of_lt_of_le h1 hb.size,zac hb h2,zac hb h3,zac hb h4,hE.below h5 hb⟩⟩
theorem zaN.nil (w:World):zaN E w none 0 0 []:=⟨rfl,Nat.le_refl _,by decide,λi x hi=>by simp at hi⟩
theorem zaN.at_ {w:World}{A:oA9}{n c:Nat}{xs:List α}(h:zaN E w A n c xs){i:Nat}(hi:i<n)(d0:α):∃(ad:Addr) (b:Bool) (B:oA9) (m d:Nat) (F:oA9) (u v:Nat),A=some ad/\ad.block<w.heap.size/\w.cell? (ad.add (i*3))=some (.bool b)/\w.cell? (ad.add (i*3+1))=some (.slice B m d)/\w.cell? (ad.add (i*3+2))=some (.slice F u v)/\E w (xs.getD i d0) b B m d F u v:=by
 have hl:=h.len
 refine h.num i _ ?_
 rw [List.getD_eq_getElem?_getD,List.getElem?_eq_getElem (by omega)]
 rfl
structure zbi (E:El α)(w:World)(t:TypeId)(g n:Nat)(xs:List α):Prop where
 len:xs.length=n
 blk:∃cs:Array Value,Blk w g t cs/\NoU cs/\cs.size=n*3
 num:∀i x,xs[i]?=some x->∃(b:Bool) (B:oA9) (m d:Nat) (F:oA9) (u v:Nat),w.cell? ⟨g,i*3,none⟩=some (.bool b)/\w.cell? ⟨g,i*3+1,none⟩=some (.slice B m d)/\w.cell? ⟨g,i*3+2,none⟩=some (.slice F u v)/\E w x b B m d F u v
theorem zbi.lt {w:World}{t:TypeId}{g n:Nat}{xs:List α}(h:zbi E w t g n xs):g<w.heap.size:=by
 obtain⟨cs,hk,_⟩:=h.blk
 exact hk.lt
theorem zbi.below (hE:zdC E){w w':World}{t:TypeId}{g n:Nat}{xs:List α}(h:zbi E w t g n xs)(hb:Below w.heap.size w w'):zbi E w' t g n xs:=by
 refine⟨h.len,?_,λi x hi=>?_⟩
 ·obtain⟨cs,hk,h1,h2⟩:=h.blk
  exact⟨cs,zab hb hk,h1,h2⟩
 ·obtain⟨b,B,m,d,F,u,v,h1,h2,h3,h4⟩:=h.num i x hi
  exact⟨b,B,m,d,F,u,v,zac hb h1,zac hb h2,zac hb h3,hE.below h4 hb⟩
theorem zaO (g k:Nat):(⟨g,0,none⟩:Addr).add k=⟨g,k,none⟩:=by unfold Addr.add;split<;>simp_all
theorem zbi.row {w:World}{t:TypeId}{g n:Nat}{xs:List α}(h:zbi E w t g n xs)(hn:n<=9223372036854775807):zaN E w (some ⟨g,0,none⟩) n n xs:=
 ⟨h.len,Nat.le_refl _,hn,λi x hi=>by
  obtain⟨b,B,m,d,F,u,v,h1,h2,h3,h4⟩:=h.num i x hi
  exact⟨_,b,B,m,d,F,u,v,rfl,h.lt,by rw [zaO];exact h1,by rw [zaO];exact h2,by rw [zaO];exact h3,h4⟩⟩
theorem zbi.ready {w:World}{t:TypeId}{g n:Nat}{xs:List α}(h:zbi E w t g n xs){i:Nat}(hi:i<n)(x y:Value):∃a b c:Value,w.cell? ⟨g,i*3,none⟩=some a/\w.frozen? ⟨g,i*3,none⟩=false/\(w.setCell ⟨g,i*3,none⟩ x).cell? ⟨g,i*3+1,none⟩=some b/\(w.setCell ⟨g,i*3,none⟩ x).frozen? ⟨g,i*3+1,none⟩=false/\
  ((w.setCell ⟨g,i*3,none⟩ x).setCell ⟨g,i*3+1,none⟩ y).cell? ⟨g,i*3+2,none⟩=some c/\((w.setCell ⟨g,i*3,none⟩ x).setCell ⟨g,i*3+1,none⟩ y).frozen? ⟨g,i*3+2,none⟩=false:=by
 obtain⟨cs,hk,h1,h2⟩:=h.blk
 have hk1:=hk.set_ (i*3) x
 have hk2:=hk1.set_ (i*3+1) y
 have e0:i*3<cs.size:=by omega
 have e1:i*3+1<(cs.setIfInBounds (i*3) x).size:=by simp;omega
 have e2:i*3+2<((cs.setIfInBounds (i*3) x).setIfInBounds (i*3+1) y).size:=by simp;omega
 exact⟨_,_,_,(hk.cell _).trans (Array.getElem?_eq_getElem e0),hk.frozen _,(hk1.cell _).trans (Array.getElem?_eq_getElem e1),hk1.frozen _,(hk2.cell _).trans (Array.getElem?_eq_getElem e2),hk2.frozen _⟩
theorem zkA {cs:Array Value}(h:NoU cs)(i:Nat){v:Value}(hv:∀k z,v≠.int k z):NoU (cs.setIfInBounds i v):=by
 intro u hu
 rw [Array.toList_setIfInBounds] at hu
 rcases List.mem_or_eq_of_mem_set hu with hu|rfl
 ·exact h u hu
 ·exact hv
theorem offg3 (g i j k:Nat)(w:World)(x y z:Value):zba g w (((w.setCell ⟨g,i,none⟩ x).setCell ⟨g,j,none⟩ y).setCell ⟨g,k,none⟩ z):=(((zba.refl g w).set_ i x).set_ j y).set_ k z
theorem zbi.set_ (hE:zdC E){w:World}{t:TypeId}{g n:Nat}{xs:List α}(h:zbi E w t g n xs){i:Nat}(hi:i<n){x:α}{b:Bool}{B:oA9}{m d:Nat}{F:oA9}{u v:Nat}(hx:E w x b B m d F u v):
  zbi E (((w.setCell ⟨g,i*3,none⟩ (.bool b)).setCell ⟨g,i*3+1,none⟩ (.slice B m d)).setCell ⟨g,i*3+2,none⟩ (.slice F u v)) t g n (xs.set i x):=by
 obtain⟨cs,hk,h1,h2⟩:=h.blk
 have ho:=zbe.of_far (offg3 g (i*3) (i*3+1) (i*3+2) w (.bool b) (.slice B m d) (.slice F u v))
 have hk3:=((hk.set_ (i*3) (.bool b)).set_ (i*3+1) (.slice B m d)).set_ (i*3+2) (.slice F u v)
 refine⟨by rw [List.length_set];exact h.len,⟨_,hk3,?_,by simp;exact h2⟩,λj y hj=>?_⟩
 ·exact zkA (zkA (zkA h1 _ (λ_ _ e=>by cases e)) _ (λ_ _ e=>by cases e)) _ (λ_ _ e=>by cases e)
 ·by_cases hij:i=j
  ·subst hij
   have hl:=h.len
   rw [List.getElem?_set_self (by omega)] at hj
   injection hj with hj
   subst hj
   refine⟨b,B,m,d,F,u,v,?_,?_,?_,hE.offg hx hk h1 ho⟩
   ·rw [hk3.cell,Array.getElem?_setIfInBounds_ne (by omega),Array.getElem?_setIfInBounds_ne (by omega),Array.getElem?_setIfInBounds_self_of_lt (by omega)]
   ·rw [hk3.cell,Array.getElem?_setIfInBounds_ne (by omega),Array.getElem?_setIfInBounds_self_of_lt (by simp;omega)]
   ·rw [hk3.cell,Array.getElem?_setIfInBounds_self_of_lt (by simp;omega)]
  ·rw [List.getElem?_set_ne hij] at hj
   obtain⟨b',B',m',d',F',u',v',c1,c2,c3,c4⟩:=h.num j y hj
   refine⟨b',B',m',d',F',u',v',?_,?_,?_,hE.offg c4 hk h1 ho⟩
   ·rw [hk3.cell,Array.getElem?_setIfInBounds_ne (by omega),Array.getElem?_setIfInBounds_ne (by omega),Array.getElem?_setIfInBounds_ne (by omega),<-hk.cell];exact c1
   ·rw [hk3.cell,Array.getElem?_setIfInBounds_ne (by omega),Array.getElem?_setIfInBounds_ne (by omega),Array.getElem?_setIfInBounds_ne (by omega),<-hk.cell];exact c2
   ·rw [hk3.cell,Array.getElem?_setIfInBounds_ne (by omega),Array.getElem?_setIfInBounds_ne (by omega),Array.getElem?_setIfInBounds_ne (by omega),<-hk.cell];exact c3
end
theorem zbC (z:Array Value)(n j:Nat)(h:j<n):(madeCells z n)[j]?=some z[j%z.size]!:=by
 unfold madeCells
 rw [Array.getElem?_map,Array.getElem?_eq_getElem (by simpa using h)]
 simp
def zfY:Array Value:=#[.bool false,.slice none 0 0,.slice none 0 0]
theorem zpS (n:Nat):NoU (madeCells zfY n):=by
 intro v hv k z e
 rw [Array.mem_toList_iff,Array.mem_iff_getElem?] at hv
 obtain⟨j,hj⟩:=hv
 have hlt:j<n:=by
  have:=(Array.getElem?_eq_some_iff.1 hj).1
  rwa [size_madeCells] at this
 rw [zbC _ _ _ hlt] at hj
 have h3:j%3=0\/j%3=1\/j%3=2:=by omega
 rw [show zfY.size=3 from rfl] at hj
 subst e
 rcases h3 with h3|h3|h3<;>rw [h3] at hj<;>simp [zfY] at hj
theorem zbi.made {α:Type}{E:El α}(w:World)(t:TypeId)(n:Nat)(z0:α)(hz:∀w',E w' z0 false none 0 0 none 0 0):zbi E (w.alloc (.cells (madeCells zfY (n*3)) t)) t w.heap.size n (List.replicate n z0):=by
 have hk:=Blk.new w t (madeCells zfY (n*3))
 refine⟨by simp,⟨_,hk,zpS _,size_madeCells _ _⟩,λi x hi=>?_⟩
 have hlt:i<n:=by
  have:=(List.getElem?_eq_some_iff.1 hi).1
  simpa using this
 obtain rfl:z0=x:=by
  rw [List.getElem?_replicate,if_pos hlt] at hi
  injection hi
 have e0:(i*3)%3=0:=by omega
 have e1:(i*3+1)%3=1:=by omega
 have e2:(i*3+2)%3=2:=by omega
 refine⟨false,none,0,0,none,0,0,?_,?_,?_,hz _⟩
 ·rw [hk.cell,zbC _ _ _ (by omega),show zfY.size=3 from rfl,e0];rfl
 ·rw [hk.cell,zbC _ _ _ (by omega),show zfY.size=3 from rfl,e1];rfl
 ·rw [hk.cell,zbC _ _ _ (by omega),show zfY.size=3 from rfl,e2];rfl
def zcB {α:Type}(z0:α)(ys:List α)(n i:Nat):List α:=ys.take i++List.replicate (n - i) z0
theorem zbR {α:Type}(z0:α)(ys:List α)(n:Nat):zcB z0 ys n 0=List.replicate n z0:=by simp [zcB]
theorem zck {α:Type}(z0:α)(ys:List α)(n:Nat)(h:ys.length=n):zcB z0 ys n n=ys:=by simp [zcB,<-h]
theorem zcl {α:Type}(z0:α)(ys:List α)(n i:Nat)(hl:ys.length=n)(hi:i<n)(y:α)(hy:ys[i]?=some y):(zcB z0 ys n i).set i y=zcB z0 ys n (i+1):=by
 unfold zcB
 have hlt:i<ys.length:=by omega
 have e:(ys.take i).length=i:=by rw [List.length_take];omega
 rw [List.set_append_right _ _ (by omega),e,Nat.sub_self,List.take_succ_eq_append_getElem hlt,List.append_assoc]
 congr 1
 obtain⟨m,hm⟩:∃m,n - i=m+1:=⟨n - i - 1,by omega⟩
 have hm2:n - (i+1)=m:=by omega
 rw [hm,hm2,List.replicate_succ]
 have hv:ys[i]=y:=by rw [List.getElem?_eq_getElem hlt] at hy;injection hy
 rw [hv]
 rfl
theorem zhA (w:World):zad w 0 none 0 0:=by
 refine⟨⟨by rw [show dg 18446744073709551616 0=[] from by rw [dg];rfl];rfl,λh=>absurd h (by decide)⟩,Nat.le_refl _,by decide⟩
theorem ziN (w:World):zai w (0:Rat) false none 0 0 none 0 0:=⟨⟨rfl,zhA w⟩,⟨0,⟨rfl,by decide⟩,zhA w⟩⟩
abbrev zaC (w:World)(A:oA9)(n c:Nat)(xs:List Rat):Prop:=zaN zai w A n c xs
abbrev zbT (w:World)(g n:Nat)(xs:List Rat):Prop:=zbi zai w 53 g n xs
theorem zaC.keep {w w':World}{A:oA9}{n c:Nat}{xs:List Rat}(h:zaC w A n c xs)(hb:Below w.heap.size w w'):zaC w' A n c xs:=zaN.below zaf h hb
theorem zbT.keep {w w':World}{g n:Nat}{xs:List Rat}(h:zbT w g n xs)(hb:Below w.heap.size w w'):zbT w' g n xs:=zbi.below zaf h hb
def zeU (w:World)(n:Nat)(xs:List Rat)(e:Ending)(w':World):Prop:=∃g,e=.returned (.slice (some ⟨g,0,none⟩) n n)/\w.heap.size<=g/\zbT w' g n xs/\Below w.heap.size w w'
def zdx (w:World)(n:Nat)(xs:List Rat)(e:Ending)(w':World):Prop:=∃g,e=.returned (.tuple #[.slice (some ⟨g,0,none⟩) n n,.bool true])/\w.heap.size<=g/\zbT w' g n xs/\Below w.heap.size w w'
theorem own_make (w:World)(n:Nat):zbT (w.alloc (.cells (madeCells zfY (n*3)) 53)) w.heap.size n (List.replicate n 0):=zbi.made w _ n 0 ziN
theorem info10:(Tryz.prog.info? 53).map (λi=>(i.zero,i.size,i.bytes))=some (some (.agg #[.bool false,.slice none 0 0,.slice none 0 0]),3,56):=by kernel_rfl
theorem zhL {w:World}{ad:Addr}{k:Nat}{v:Value}(h:w.cell? (ad.add (k+1))=some v):w.cell? ⟨(ad.add k).block,(ad.add k).off+1,none⟩=some v:=by
 rw [<-zey] at h
 exact h
theorem znU {w:World}{ad:Addr}{k:Nat}{v:Value}(h:w.cell? (ad.add (k+2))=some v):w.cell? ⟨(ad.add k).block,(ad.add k).off+2,none⟩=some v:=by
 rw [<-zey] at h
 exact h
theorem zei (n:Nat)(hn:n<=1099511627776):∃Z:Array Value,∀W:World,(Instr.makeSlice 71 (.int .i64 (n:Int)) (.int .i64 (n:Int))).run Tryz.prog W=.ok (.slice (some ⟨W.heap.size,0,none⟩) n n) (W.alloc (.cells Z 53))/\zbT (W.alloc (.cells Z 53)) W.heap.size n (List.replicate n 0):=by
 obtain⟨i0,hi0,hz0,hz1,hz2⟩:=info_parts info10
 refine⟨madeCells zfY (n*3),λW=>⟨?_,own_make W n⟩⟩
 have h:=zaY (P:=Tryz.prog) _ _ i0 _ Tryz.underlying71 hi0 hz0 .i64 .i64 n n (Nat.le_refl _) (by rw [hz2];omega) (by omega) W
 rw [hz1] at h
 exact h
theorem zaC.get {w wr:World}{A:oA9}{n c:Nat}{xs:List Rat}(h:zaC w A n c xs)(hb:Below w.heap.size w wr){i:Nat}(hi:i<n):∃(ad:Addr) (b:Bool) (B:oA9) (m d:Nat) (F:oA9) (u v:Nat),A=some ad/\ad.block<w.heap.size/\wr.cell? (ad.add (i*3))=some (.bool b)/\wr.cell? ⟨(ad.add (i*3)).block,(ad.add (i*3)).off+1,none⟩=some (.slice B m d)/\wr.cell? ⟨(ad.add (i*3)).block,(ad.add (i*3)).off+2,none⟩=some (.slice F u v)/\zai wr (xs.getD i 0) b B m d F u v:=by
 obtain⟨ad,b,B,m,d,F,u,v,e,h0,h1,h2,h3,h4⟩:=h.at_ hi 0
 exact⟨ad,b,B,m,d,F,u,v,e,h0,zac hb h1,zac hb (zhL h2),zac hb (znU h3),h4.below hb⟩
theorem zhR {ad:Addr}{k g:Nat}(h:ad.block≠g):(ad.add k).block≠g:=by rw [zao];exact h
theorem zbQ {w W:World}{g:Nat}(i j k:Nat)(x y z:Value)(hg:w.heap.size<=g)(h:Below w.heap.size w W):Below w.heap.size w (((W.setCell ⟨g,i,none⟩ x).setCell ⟨g,j,none⟩ y).setCell ⟨g,k,none⟩ z):=zae z hg (zae y hg (zae x hg h))
