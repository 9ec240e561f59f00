/- What this claim leans on. -/
import Derived.Test.YtlgnacmgepnamaaGreatDoorMUArgs2
import Derived.Laws.AppendOwn
namespace Go.Proofs.YtlgnacmgepnamaaGreatDoor
open Go Go.RowKit
set_option maxHeartbeats 16000000
set_option linter.unusedVariables false
abbrev El (α:Type):=World->α->Bool->oA9->Nat->Nat->oA9->Nat->Nat->Prop
def zcI (g:Nat)(w w':World):Prop:=w.heap.size<=w'.heap.size/\∀p:Addr,p.block<w.heap.size->p.block≠g->w'.cell? p=w.cell? p
theorem zcI.of_far {g:Nat}{w w':World}(h:zde g w w'):zcI g w w':=⟨by rw [h.1];exact Nat.le_refl _,λp _ hp=>h.2 p hp⟩
theorem zcI.of_grown {g:Nat}{w w':World}(h:w.grownBy w' (some g)):zcI g w w':=
 ⟨h.size,λp hp hne=>World.cell?_of_block (h.block p.block hp (λe=>hne (by injection e)))⟩
theorem zdN {w w':World}(h:w.grownBy w' none):Below w.heap.size w w':=(Below.refl _ w).grown h (Nat.le_refl _) (λk e=>by cases e)
theorem ziI {w w':World}{A:oA9}{n g:Nat}{k:IntKind}{l:List Nat}{t:TypeId}{cs:Array Value}(h:zau w w.heap.size 1 A n (zaw k l))(hk:Blk w g t cs)(hcs:NoU cs)(ho:zcI g w w'):zau w' w'.heap.size 1 A n (zaw k l):=by
 have hne:=zjS h hk hcs
 refine⟨h.1,λhn=>?_⟩
 obtain⟨ad,e,hb,hc⟩:=h.2 hn
 refine⟨ad,e,Nat.lt_of_lt_of_le hb ho.1,λj v hv=>?_⟩
 rw [ho.2 (ad.add j) (by rw [zap];exact hb) (by rw [zap];exact hne hn ad e)]
 exact hc j v hv
theorem zjb {w w':World}{x:Nat}{A:oA9}{n c g:Nat}{t:TypeId}{cs:Array Value}(h:zag w x A n c)(hk:Blk w g t cs)(hcs:NoU cs)(ho:zcI g w w'):zag w' x A n c:=⟨ziI h.1 hk hcs ho,h.2⟩
theorem zig {w w':World}{x:Nat}{A:oA9}{n c g:Nat}{t:TypeId}{cs:Array Value}(h:zak w x A n c)(hk:Blk w g t cs)(hcs:NoU cs)(ho:zcI g w w'):zak w' x A n c:=⟨ziI h.1 hk hcs ho,h.2⟩
structure zdM {α:Type}(E:El α):Prop where
 below:∀{w w':World} {x:α} {b:Bool} {A:oA9} {n c:Nat} {F:oA9} {k f:Nat},E w x b A n c F k f->Below w.heap.size w w'->E w' x b A n c F k f
 offg:∀{w w':World} {x:α} {b:Bool} {A:oA9} {n c:Nat} {F:oA9} {k f g:Nat} {t:TypeId} {cs:Array Value},E w x b A n c F k f->Blk w g t cs->NoU cs->zcI g w w'->E w' x b A n c F k f
theorem zar:zdM zan where
 below h hb:=h.below hb
 offg h hk hcs ho:=by
  obtain⟨⟨h1,h2⟩,x,e,h3⟩:=h
  exact⟨⟨h1,zjb h2 hk hcs ho⟩,x,e,zjb h3 hk hcs ho⟩
section
variable {α:Type}{E:El α}
structure zas (E:El α)(w:World)(A:oA9)(n c:Nat)(xs:List α):Prop where
 len:xs.length=n
 fits:n<=c
 most:c<=9223372036854775807
 num:∀i x,xs[i]?=some x->∃(ad:Addr) (b:Bool) (B:oA9) (m d:Nat) (F:oA9) (u v:Nat),A=some ad/\ad.block<w.heap.size/\w.cell? (ad.add (i*3))=some (.bool b)/\w.cell? (ad.add (i*3+1))=some (.slice B m d)/\w.cell? (ad.add (i*3+2))=some (.slice F u v)/\E w x b B m d F u v
theorem zas.below (hE:zdM E){w w':World}{A:oA9}{n c:Nat}{xs:List α}(h:zas E w A n c xs)(hb:Below w.heap.size w w'):zas E w' A n c xs:=
 ⟨h.len,h.fits,h.most,λi x hi=>by
  obtain⟨ad,b,B,m,d,F,u,v,e,h1,h2,h3,h4,h5⟩:=h.num i x hi
  exact⟨ad,b,B,m,d,F,u,v,e,Nat.lt_of_lt_of_le h1 hb.size,zae hb h2,zae hb h3,zae hb h4,hE.below h5 hb⟩⟩
theorem zas.nil (w:World):zas E w none 0 0 []:=⟨rfl,Nat.le_refl _,by decide,λi x hi=>by simp at hi⟩
theorem zas.at_ {w:World}{A:oA9}{n c:Nat}{xs:List α}(h:zas E w A n c xs){i:Nat}(hi:i<n)(d0:α):∃(ad:Addr) (b:Bool) (B:oA9) (m d:Nat) (F:oA9) (u v:Nat),A=some ad/\ad.block<w.heap.size/\w.cell? (ad.add (i*3))=some (.bool b)/\w.cell? (ad.add (i*3+1))=some (.slice B m d)/\w.cell? (ad.add (i*3+2))=some (.slice F u v)/\E w (xs.getD i d0) b B m d F u v:=by
 have hl:=h.len
 refine h.num i _ ?_
 rw [List.getD_eq_getElem?_getD,List.getElem?_eq_getElem (by omega)]
 rfl
structure zbv (E:El α)(w:World)(t:TypeId)(g n:Nat)(xs:List α):Prop where
 len:xs.length=n
 blk:∃cs:Array Value,Blk w g t cs/\NoU cs/\cs.size=n*3
 num:∀i x,xs[i]?=some x->∃(b:Bool) (B:oA9) (m d:Nat) (F:oA9) (u v:Nat),w.cell? ⟨g,i*3,none⟩=some (.bool b)/\w.cell? ⟨g,i*3+1,none⟩=some (.slice B m d)/\w.cell? ⟨g,i*3+2,none⟩=some (.slice F u v)/\E w x b B m d F u v
theorem zbv.lt {w:World}{t:TypeId}{g n:Nat}{xs:List α}(h:zbv E w t g n xs):g<w.heap.size:=by
 obtain⟨cs,hk,_⟩:=h.blk
 exact hk.lt
theorem zbv.below (hE:zdM E){w w':World}{t:TypeId}{g n:Nat}{xs:List α}(h:zbv E w t g n xs)(hb:Below w.heap.size w w'):zbv E w' t g n xs:=by
 refine⟨h.len,?_,λi x hi=>?_⟩
 ·obtain⟨cs,hk,h1,h2⟩:=h.blk
  exact⟨cs,zad hb hk,h1,h2⟩
 ·obtain⟨b,B,m,d,F,u,v,h1,h2,h3,h4⟩:=h.num i x hi
  exact⟨b,B,m,d,F,u,v,zae hb h1,zae hb h2,zae hb h3,hE.below h4 hb⟩
theorem zaO (g k:Nat):(⟨g,0,none⟩:Addr).add k=⟨g,k,none⟩:=by unfold Addr.add;split<;>simp_all
theorem zbv.row {w:World}{t:TypeId}{g n:Nat}{xs:List α}(h:zbv E w t g n xs)(hn:n<=9223372036854775807):zas E w (some ⟨g,0,none⟩) n n xs:=
 ⟨h.len,Nat.le_refl _,hn,λi x hi=>by
  obtain⟨b,B,m,d,F,u,v,h1,h2,h3,h4⟩:=h.num i x hi
  exact⟨_,b,B,m,d,F,u,v,rfl,h.lt,by rw [zaO];exact h1,by rw [zaO];exact h2,by rw [zaO];exact h3,h4⟩⟩
theorem zbv.ready {w:World}{t:TypeId}{g n:Nat}{xs:List α}(h:zbv E w t g n xs){i:Nat}(hi:i<n)(x y:Value):∃a b c:Value,w.cell? ⟨g,i*3,none⟩=some a/\w.frozen? ⟨g,i*3,none⟩=false/\(w.setCell ⟨g,i*3,none⟩ x).cell? ⟨g,i*3+1,none⟩=some b/\(w.setCell ⟨g,i*3,none⟩ x).frozen? ⟨g,i*3+1,none⟩=false/\
  ((w.setCell ⟨g,i*3,none⟩ x).setCell ⟨g,i*3+1,none⟩ y).cell? ⟨g,i*3+2,none⟩=some c/\((w.setCell ⟨g,i*3,none⟩ x).setCell ⟨g,i*3+1,none⟩ y).frozen? ⟨g,i*3+2,none⟩=false:=by
 obtain⟨cs,hk,h1,h2⟩:=h.blk
 have hk1:=hk.set_ (i*3) x
 have hk2:=hk1.set_ (i*3+1) y
 have e0:i*3<cs.size:=by omega
 have e1:i*3+1<(cs.setIfInBounds (i*3) x).size:=by simp;omega
 have e2:i*3+2<((cs.setIfInBounds (i*3) x).setIfInBounds (i*3+1) y).size:=by simp;omega
 exact⟨_,_,_,(hk.cell _).trans (Array.getElem?_eq_getElem e0),hk.frozen _,(hk1.cell _).trans (Array.getElem?_eq_getElem e1),hk1.frozen _,(hk2.cell _).trans (Array.getElem?_eq_getElem e2),hk2.frozen _⟩
theorem zkF {cs:Array Value}(h:NoU cs)(i:Nat){v:Value}(hv:∀k z,v≠.int k z):NoU (cs.setIfInBounds i v):=by
 intro u hu
 rw [Array.toList_setIfInBounds] at hu
 rcases List.mem_or_eq_of_mem_set hu with hu|rfl
 ·exact h u hu
 ·exact hv
theorem offg3 (g i j k:Nat)(w:World)(x y z:Value):zde g w (((w.setCell ⟨g,i,none⟩ x).setCell ⟨g,j,none⟩ y).setCell ⟨g,k,none⟩ z):=(((zde.refl g w).set_ i x).set_ j y).set_ k z
theorem zbv.set_ (hE:zdM E){w:World}{t:TypeId}{g n:Nat}{xs:List α}(h:zbv E w t g n xs){i:Nat}(hi:i<n){x:α}{b:Bool}{B:oA9}{m d:Nat}{F:oA9}{u v:Nat}(hx:E w x b B m d F u v):
  zbv E (((w.setCell ⟨g,i*3,none⟩ (.bool b)).setCell ⟨g,i*3+1,none⟩ (.slice B m d)).setCell ⟨g,i*3+2,none⟩ (.slice F u v)) t g n (xs.set i x):=by
 obtain⟨cs,hk,h1,h2⟩:=h.blk
 have ho:=zcI.of_far (offg3 g (i*3) (i*3+1) (i*3+2) w (.bool b) (.slice B m d) (.slice F u v))
 have hk3:=((hk.set_ (i*3) (.bool b)).set_ (i*3+1) (.slice B m d)).set_ (i*3+2) (.slice F u v)
 refine⟨by rw [List.length_set];exact h.len,⟨_,hk3,?_,by simp;exact h2⟩,λj y hj=>?_⟩
 ·exact zkF (zkF (zkF h1 _ (λ_ _ e=>by cases e)) _ (λ_ _ e=>by cases e)) _ (λ_ _ e=>by cases e)
 ·by_cases hij:i=j
  ·subst hij
   have hl:=h.len
   rw [List.getElem?_set_self (by omega)] at hj
   injection hj with hj
   subst hj
   refine⟨b,B,m,d,F,u,v,?_,?_,?_,hE.offg hx hk h1 ho⟩
   ·rw [hk3.cell,Array.getElem?_setIfInBounds_ne (by omega),Array.getElem?_setIfInBounds_ne (by omega),Array.getElem?_setIfInBounds_self_of_lt (by omega)]
   ·rw [hk3.cell,Array.getElem?_setIfInBounds_ne (by omega),Array.getElem?_setIfInBounds_self_of_lt (by simp;omega)]
   ·rw [hk3.cell,Array.getElem?_setIfInBounds_self_of_lt (by simp;omega)]
  ·rw [List.getElem?_set_ne hij] at hj
   obtain⟨b',B',m',d',F',u',v',c1,c2,c3,c4⟩:=h.num j y hj
   refine⟨b',B',m',d',F',u',v',?_,?_,?_,hE.offg c4 hk h1 ho⟩
   ·rw [hk3.cell,Array.getElem?_setIfInBounds_ne (by omega),Array.getElem?_setIfInBounds_ne (by omega),Array.getElem?_setIfInBounds_ne (by omega),<-hk.cell];exact c1
   ·rw [hk3.cell,Array.getElem?_setIfInBounds_ne (by omega),Array.getElem?_setIfInBounds_ne (by omega),Array.getElem?_setIfInBounds_ne (by omega),<-hk.cell];exact c2
   ·rw [hk3.cell,Array.getElem?_setIfInBounds_ne (by omega),Array.getElem?_setIfInBounds_ne (by omega),Array.getElem?_setIfInBounds_ne (by omega),<-hk.cell];exact c3
end
theorem zbx (z:Array Value)(n j:Nat)(h:j<n):(madeCells z n)[j]?=some z[j%z.size]!:=by
 unfold madeCells
 rw [Array.getElem?_map,Array.getElem?_eq_getElem (by simpa using h)]
 simp
def zfQ:Array Value:=#[.bool false,.slice none 0 0,.slice none 0 0]
theorem zpY (n:Nat):NoU (madeCells zfQ n):=by
 intro v hv k z e
 rw [Array.mem_toList_iff,Array.mem_iff_getElem?] at hv
 obtain⟨j,hj⟩:=hv
 have hlt:j<n:=by
  have:=(Array.getElem?_eq_some_iff.1 hj).1
  rwa [size_madeCells] at this
 rw [zbx _ _ _ hlt] at hj
 have h3:j%3=0\/j%3=1\/j%3=2:=by omega
 rw [show zfQ.size=3 from rfl] at hj
 subst e
 rcases h3 with h3|h3|h3<;>rw [h3] at hj<;>simp [zfQ] at hj
theorem zbv.made {α:Type}{E:El α}(w:World)(t:TypeId)(n:Nat)(z0:α)(hz:∀w',E w' z0 false none 0 0 none 0 0):zbv E (w.alloc (.cells (madeCells zfQ (n*3)) t)) t w.heap.size n (List.replicate n z0):=by
 have hk:=Blk.new w t (madeCells zfQ (n*3))
 refine⟨by simp,⟨_,hk,zpY _,size_madeCells _ _⟩,λi x hi=>?_⟩
 have hlt:i<n:=by
  have:=(List.getElem?_eq_some_iff.1 hi).1
  simpa using this
 obtain rfl:z0=x:=by
  rw [List.getElem?_replicate,if_pos hlt] at hi
  injection hi
 have e0:(i*3)%3=0:=by omega
 have e1:(i*3+1)%3=1:=by omega
 have e2:(i*3+2)%3=2:=by omega
 refine⟨false,none,0,0,none,0,0,?_,?_,?_,hz _⟩
 ·rw [hk.cell,zbx _ _ _ (by omega),show zfQ.size=3 from rfl,e0];rfl
 ·rw [hk.cell,zbx _ _ _ (by omega),show zfQ.size=3 from rfl,e1];rfl
 ·rw [hk.cell,zbx _ _ _ (by omega),show zfQ.size=3 from rfl,e2];rfl
def zch {α:Type}(z0:α)(ys:List α)(n i:Nat):List α:=ys.take i++List.replicate (n - i) z0
theorem zbH {α:Type}(z0:α)(ys:List α)(n:Nat):zch z0 ys n 0=List.replicate n z0:=by simp [zch]
theorem zbV {α:Type}(z0:α)(ys:List α)(n:Nat)(h:ys.length=n):zch z0 ys n n=ys:=by simp [zch,<-h]
theorem zbW {α:Type}(z0:α)(ys:List α)(n i:Nat)(hl:ys.length=n)(hi:i<n)(y:α)(hy:ys[i]?=some y):(zch z0 ys n i).set i y=zch z0 ys n (i+1):=by
 unfold zch
 have hlt:i<ys.length:=by omega
 have e:(ys.take i).length=i:=by rw [List.length_take];omega
 rw [List.set_append_right _ _ (by omega),e,Nat.sub_self,List.take_succ_eq_append_getElem hlt,List.append_assoc]
 congr 1
 obtain⟨m,hm⟩:∃m,n - i=m+1:=⟨n - i - 1,by omega⟩
 have hm2:n - (i+1)=m:=by omega
 rw [hm,hm2,List.replicate_succ]
 have hv:ys[i]=y:=by rw [List.getElem?_eq_getElem hlt] at hy;injection hy
 rw [hv]
 rfl
theorem zhv (w:World):zag w 0 none 0 0:=by
 refine⟨⟨by rw [show dg 18446744073709551616 0=[] from by rw [dg];rfl];rfl,λh=>absurd h (by decide)⟩,Nat.le_refl _,by decide⟩
theorem ziG (w:World):zan w (0:Rat) false none 0 0 none 0 0:=⟨⟨rfl,zhv w⟩,⟨0,⟨rfl,by decide⟩,zhv w⟩⟩
abbrev zaM (w:World)(A:oA9)(n c:Nat)(xs:List Rat):Prop:=zas zan w A n c xs
abbrev zcW (w:World)(g n:Nat)(xs:List Rat):Prop:=zbv zan w 48 g n xs
theorem zaM.keep {w w':World}{A:oA9}{n c:Nat}{xs:List Rat}(h:zaM w A n c xs)(hb:Below w.heap.size w w'):zaM w' A n c xs:=zas.below zar h hb
theorem zcW.keep {w w':World}{g n:Nat}{xs:List Rat}(h:zcW w g n xs)(hb:Below w.heap.size w w'):zcW w' g n xs:=zbv.below zar h hb
def zeZ (w:World)(n:Nat)(xs:List Rat)(e:Ending)(w':World):Prop:=∃g,e=.returned (.slice (some ⟨g,0,none⟩) n n)/\w.heap.size<=g/\zcW w' g n xs/\Below w.heap.size w w'
def zdn (w:World)(n:Nat)(xs:List Rat)(e:Ending)(w':World):Prop:=∃g,e=.returned (.tuple #[.slice (some ⟨g,0,none⟩) n n,.bool true])/\w.heap.size<=g/\zcW w' g n xs/\Below w.heap.size w w'
def zhC (w:World)(e:Ending)(w':World):Prop:=e=.returned (.tuple #[.slice none 0 0,.bool false])/\Below w.heap.size w w'
theorem own_make (w:World)(n:Nat):zcW (w.alloc (.cells (madeCells zfQ (n*3)) 48)) w.heap.size n (List.replicate n 0):=zbv.made w _ n 0 ziG
theorem info10:(Tryz.prog.info? 48).map (λi=>(i.zero,i.size,i.bytes))=some (some (.agg #[.bool false,.slice none 0 0,.slice none 0 0]),3,56):=by kernel_rfl
theorem zgs {w:World}{ad:Addr}{k:Nat}{v:Value}(h:w.cell? (ad.add (k+1))=some v):w.cell? ⟨(ad.add k).block,(ad.add k).off+1,none⟩=some v:=by
 rw [<-zfS] at h
 exact h
theorem znZ {w:World}{ad:Addr}{k:Nat}{v:Value}(h:w.cell? (ad.add (k+2))=some v):w.cell? ⟨(ad.add k).block,(ad.add k).off+2,none⟩=some v:=by
 rw [<-zfS] at h
 exact h
theorem zep (n:Nat)(hn:n<=1099511627776):∃Z:Array Value,∀W:World,(Instr.makeSlice 51 (.int .i64 (n:Int)) (.int .i64 (n:Int))).run Tryz.prog W=.ok (.slice (some ⟨W.heap.size,0,none⟩) n n) (W.alloc (.cells Z 48))/\zcW (W.alloc (.cells Z 48)) W.heap.size n (List.replicate n 0):=by
 obtain⟨i0,hi0,hz0,hz1,hz2⟩:=info_parts info10
 refine⟨madeCells zfQ (n*3),λW=>⟨?_,own_make W n⟩⟩
 have h:=zaT (P:=Tryz.prog) _ _ i0 _ Tryz.underlying51 hi0 hz0 .i64 .i64 n n (Nat.le_refl _) (by rw [hz2];omega) (by omega) W
 rw [hz1] at h
 exact h
theorem zaM.get {w wr:World}{A:oA9}{n c:Nat}{xs:List Rat}(h:zaM w A n c xs)(hb:Below w.heap.size w wr){i:Nat}(hi:i<n):∃(ad:Addr) (b:Bool) (B:oA9) (m d:Nat) (F:oA9) (u v:Nat),A=some ad/\ad.block<w.heap.size/\wr.cell? (ad.add (i*3))=some (.bool b)/\wr.cell? ⟨(ad.add (i*3)).block,(ad.add (i*3)).off+1,none⟩=some (.slice B m d)/\wr.cell? ⟨(ad.add (i*3)).block,(ad.add (i*3)).off+2,none⟩=some (.slice F u v)/\zan wr (xs.getD i 0) b B m d F u v:=by
 obtain⟨ad,b,B,m,d,F,u,v,e,h0,h1,h2,h3,h4⟩:=h.at_ hi 0
 exact⟨ad,b,B,m,d,F,u,v,e,h0,zae hb h1,zae hb (zgs h2),zae hb (znZ h3),h4.below hb⟩
theorem off_add {ad:Addr}{k g:Nat}(h:ad.block≠g):(ad.add k).block≠g:=by rw [zap];exact h
theorem zcN {w W:World}{g:Nat}(i j k:Nat)(x y z:Value)(hg:w.heap.size<=g)(h:Below w.heap.size w W):Below w.heap.size w (((W.setCell ⟨g,i,none⟩ x).setCell ⟨g,j,none⟩ y).setCell ⟨g,k,none⟩ z):=zaf z hg (zaf y hg (zaf x hg h))
set_option linter.unusedSimpArgs false
def zgO (u:Value):Prop:=∀k z,u≠.int k z
def zbG (w:World)(v:Value):Prop:=∀g,v.ownBlock=some g->∃(cur:Array Value) (e:TypeId),w.heap[g]?=some (.cells cur e (0,0))/\∀u ∈ cur.toList,zgO u
theorem zbG.nil (w:World)(c:Nat):zbG w (.slice none 0 c):=λg h=>by simp [Value.ownBlock] at h
theorem zbG.block {w w':World}{v:Value}(h:zbG w v)(hg:∀g,v.ownBlock=some g->w'.heap[g]?=w.heap[g]?):zbG w' v:=λg e=>by
 obtain⟨cur,t,h1,h2⟩:=h g e
 exact⟨cur,t,(hg g e).trans h1,h2⟩
theorem zbG.below {w w':World}{v:Value}(h:zbG w v)(hb:Below w.heap.size w w'):zbG w' v:=λg e=>by
 obtain⟨cur,t,h1,h2⟩:=h g e
 exact⟨cur,t,(hb.block g (Array.getElem?_eq_some_iff.1 h1).1).trans h1,h2⟩
theorem zjc {z:Array Value}{k:Nat}{u:Value}(hz:0<z.size)(hu:u ∈(Builtin.zeroCells z k).toList):u ∈ z.toList:=by
 unfold Builtin.zeroCells at hu
 rw [Array.mem_toList_iff,Array.mem_map] at hu
 obtain⟨i,_,rfl⟩:=hu
 have hlt:i%z.size<z.size:=Nat.mod_lt _ hz
 rw [getElem!_pos z (i%z.size) hlt,Array.mem_toList_iff]
 exact Array.getElem_mem hlt
section
variable {P:Program}(w:World)
theorem zfs (base:Nat)(t ty e:TypeId)(i:TypeInfo)(z:Value)(size bytes:Nat)(ht:P.underlying t=some (.slice e))(hi:P.info? e=some i)(hz:i.zero=some z)
  (hsize:i.size=size) (hby:i.bytes=bytes) (hzs:z.cells.size=size) (hsz:0<size)
  (v:Value) (n:Nat) (xs:List Value) (hown:w.ownsRow base e size v n xs)
  (a:Addr) (m c:Nat) (news:List Value) (hl:news.length=m*size) (hnews:∀j u,news[j]?=some u->w.cell? (a.add j)=some u) (h1:∀u ∈ news,u.oneCell'=true)
  (h63:n+m<=maxLen) (hbytes:(n+m)*bytes<=140737488355328) (hbase:base<=w.heap.size)
  (hv:zbG w v) (hzn:∀u ∈ z.cells.toList,zgO u) (hnn:∀u ∈ news,zgO u):
  ∃ v' w',(Builtin.append_ #[t,t] ty #[v,.slice (some a) m c]).run P w = .ok v' w' ∧ w'.ownsRow base e size v' (n + m) (xs ++ news) ∧ w.grownBy w' v.ownBlock ∧
   (v'.ownBlock=v.ownBlock\/v'.ownBlock=some w.heap.size)/\zbG w' v':=by
 subst hsize
 subst hby
 have hsmall:n+m<=9223372036854775807:=by simp only [maxLen] at h63;omega
 have hlen:(xs++news).length=(n+m)*i.size:=by rw [List.length_append,hown.1,hl,Nat.add_mul]
 have grown : ∀ (old : Nat),old < n + m → (∀ u ∈ xs,zgO u) → ∀ (row : Option Nat),
   (w.drew.alloc (.cells (xs.toArray ++ news.toArray ++ Builtin.zeroCells z.cells (grownCap w (n + m) old e - (n + m))) e)).ownsRow base e i.size
     (.slice (some ⟨w.heap.size,0,none⟩) (n+m) (grownCap w (n+m) old e)) (n+m) (xs++news)/\
   w.grownBy (w.drew.alloc (.cells (xs.toArray++news.toArray++Builtin.zeroCells z.cells (grownCap w (n+m) old e - (n+m))) e)) row/\
   zbG (w.drew.alloc (.cells (xs.toArray++news.toArray++Builtin.zeroCells z.cells (grownCap w (n+m) old e - (n+m))) e)) (.slice (some ⟨w.heap.size,0,none⟩) (n+m) (grownCap w (n+m) old e)):=by
  intro old ho hxs row
  have hge:=grownCap_ge w (n+m) old e
  have hcm:grownCap w (n+m) old e<=maxLen:=grownCap_le_maxLen w (n+m) old e h63
  refine⟨⟨hlen,.inr ⟨w.heap.size,_,_,rfl,hbase,heap_alloc_new w.drew _,hge,hcm,?_,?_⟩⟩,⟨rfl,rfl,rfl,by simp,λk hk _=>heap_alloc_old w.drew _ hk⟩,?_⟩
  ·simp only [Array.size_append,List.size_toArray,size_zeroCells,hzs,hown.1,hl,<-Nat.add_mul]
   congr 1
   omega
  ·simp only [Array.toList_append,List.append_assoc]
   rw [<-List.append_assoc,<-hlen]
   exact List.take_left
  ·intro g hg
   simp [Value.ownBlock] at hg
   subst hg
   refine⟨_,_,heap_alloc_new w.drew _,λu hu=>?_⟩
   simp only [Array.toList_append,List.mem_append] at hu
   rcases hu with(hu|hu)|hu
   ·exact hxs u hu
   ·exact hnn u hu
   ·exact hzn u (zjc (by omega) hu)
 rcases hown.2 with⟨rfl,rfl⟩|⟨g,cap,cur,rfl,hbg,hg,hnc,hcm,hcs,htake⟩
 ·have hx:xs=[]:=List.eq_nil_of_length_eq_zero (by simpa using hown.1)
  subst hx
  by_cases hm:m=0
  ·subst hm
   have hn:news=[]:=List.eq_nil_of_length_eq_zero (by simpa using hl)
   subst hn
   refine⟨.slice none 0 0,w,?_,World.ownsRow_nil w base e i.size,⟨rfl,rfl,rfl,Nat.le_refl _,λ_ _ _=>rfl⟩,Or.inl rfl,zbG.nil _ _⟩
   simp [Builtin.append_,run_underlying ht,sizeOf,typeInfo,hi,Builtin.lenOf,Builtin.firstCells,loadCells,loadCellsFrom]
  ·have hr:=run_append_nil (P:=P) w t ty e i z ht hi hz a m c news hl hnews (by omega) (by omega) (by have hb:=hbytes;simp only [Nat.zero_add] at hb;omega)
   have hgr:=grown 0 (by omega) (λu hu=>by cases hu) (Value.ownBlock (.slice none 0 0))
   simp only [Nat.zero_add,List.nil_append,Array.empty_append] at hgr⊢
   exact⟨_,_,hr,hgr.1,hgr.2.1,Or.inr rfl,hgr.2.2⟩
 ·obtain⟨cur2,e2,hg2,hcn⟩:=hv g rfl
  have hcur:cur2=cur:=by
   rw [hg] at hg2
   injection hg2 with hg2
   injection hg2 with hg2
   exact hg2.symm
  subst hcur
  by_cases hroom:n+m<=cap
  ·have hfit:n*i.size+news.length<=cur2.size:=by rw [hl,hcs,<-Nat.add_mul];exact Nat.mul_le_mul_right _ hroom
   have hr:=run_append_room (P:=P) w t ty e i ht hi g n cap cur2 hg a m c news hl hnews h1 hroom hfit
   refine⟨_,_,hr,⟨hlen,.inr ⟨g,cap,_,rfl,hbg,setRow_heap w g cur2 _ e _ hg,hroom,hcm,?_,?_⟩⟩,⟨rfl,rfl,rfl,by simp,λk _ hk=>setRow_other w g k _ (λe=>hk (by simp [Value.ownBlock,e]))⟩,Or.inl rfl,?_⟩
   ·simp only [List.size_toArray,List.length_append,List.length_take,List.length_drop,Array.length_toList]
    omega
   ·rw [htake,<-hlen]
    exact List.take_left
   ·intro g' hg'
    simp [Value.ownBlock] at hg'
    subst hg'
    refine⟨_,_,setRow_heap w g cur2 _ e _ hg,λu hu=>?_⟩
    rw [List.mem_append,List.mem_append] at hu
    rcases hu with(hu|hu)|hu
    ·exact hcn u (List.mem_of_mem_take hu)
    ·exact hnn u hu
    ·exact hcn u (List.mem_of_mem_drop hu)
  ·have holds:∀j u,xs[j]?=some u->w.cell? ((⟨g,0,none⟩:Addr).add j)=some u:=hown.cells (g:=g) rfl
   have hr:=run_append_grow (P:=P) w t ty e i z ht hi hz ⟨g,0,none⟩ n cap xs hown.1 holds a m c news hl hnews (by omega) (by omega) (growslice_fits (by omega) hbytes)
   have hxs:∀u ∈ xs,zgO u:=λu hu=>hcn u (List.mem_of_mem_take (by rw [htake];exact hu))
   have hgr:=grown cap (by omega) hxs (Value.ownBlock (.slice (some ⟨g,0,none⟩) n cap))
   exact⟨_,_,hr,hgr.1,hgr.2.1,Or.inr rfl,hgr.2.2⟩
theorem zdc {ops:Array Oper}{rest:List Oper}{o:Oper}{a:Act}{Q:Exit->Act->World->Prop}(hgd:o.guard=none)(s x:Operand)(t:TypeId)
  (ho:o.op=.call {callee:=.builtin .append,args:=#[s,x],argTypes:=#[t,t]})
  (base:Nat) (e:TypeId) (i:TypeInfo) (z:Value) (size bytes:Nat) (ht:P.underlying t=some (.slice e)) (hi:P.info? e=some i) (hz:i.zero=some z)
  (hsize:i.size=size) (hby:i.bytes=bytes) (hzs:z.cells.size=size) (hsz:0<size)
  (v:Value) (n:Nat) (xs:List Value) (hs:a.eval s=v) (hown:w.ownsRow base e size v n xs)
  (ad:Addr) (m c:Nat) (news:List Value) (hx:a.eval x=.slice (some ad) m c) (hl:news.length=m*size) (hnews:∀j u,news[j]?=some u->w.cell? (ad.add j)=some u) (h1:∀u ∈ news,u.oneCell'=true)
  (h63:n+m<=maxLen) (hbytes:(n+m)*bytes<=140737488355328) (hbase:base<=w.heap.size)
  (hv:zbG w v) (hzn:∀u ∈ z.cells.toList,zgO u) (hnn:∀u ∈ news,zgO u)
  (h:∀v' w',w'.ownsRow base e size v' (n+m) (xs++news)->w.grownBy w' v.ownBlock->(v'.ownBlock=v.ownBlock\/v'.ownBlock=some w.heap.size)->zbG w' v'->wpList P ops Q rest (a.put o.dst v') w'):
  wpList P ops Q (o::rest) a w:=by
 refine wpList_plain hgd λK hK=>?_
 obtain⟨v',w',hr,h2,h3,h4,h5⟩:=zfs (P:=P) w base t o.type e i z size bytes ht hi hz hsize hby hzs hsz v n xs hown ad m c news hl hnews h1 h63 hbytes hbase hv hzn hnn
 unfold Oper.wp execOp
 simp only [ho,resolve,invoke,builtin,Sem.run_bind,Sem.run_pure,Result.andThen_ok,List.map_toArray,List.map_cons,List.map_nil,hs,hx,hr]
 exact hK _ _ (h v' w' h2 h3 h4 h5)
end
theorem zbG.blk {w:World}{v:Value}{g:Nat}(h:zbG w v)(hg:v.ownBlock=some g):∃(t:TypeId) (cs:Array Value),Blk w g t cs/\NoU cs:=by
 obtain⟨cur,e,h1,h2⟩:=h g hg
 exact⟨e,cur,h1,λu hu k z=>h2 u hu k z⟩
theorem zdM.grown {α:Type}{E:El α}(hE:zdM E){w w':World}{v:Value}{x:α}{b:Bool}{A:oA9}{n c:Nat}{F:oA9}{k f:Nat}(h:E w x b A n c F k f)(hg:w.grownBy w' v.ownBlock)(hn:zbG w v):E w' x b A n c F k f:=by
 cases hv:v.ownBlock with
 |none=>rw [hv] at hg;exact hE.below h (zdN hg)
 |some g=>
   rw [hv] at hg
   obtain⟨t,cs,hk,hc⟩:=hn.blk hv
   exact hE.offg h hk hc (zcI.of_grown hg)
theorem zbg {w w':World}{g:Nat}{t:TypeId}{cs:Array Value}{row:Option Nat}(h:Blk w g t cs)(hg:w.grownBy w' row)(hne:row≠some g):Blk w' g t cs:=(hg.block g (Blk.lt h) (λe=>hne e.symm)).trans h
structure zcw {α:Type}(E:El α)(w:World)(base:Nat)(t:TypeId)(v:Value)(xs:List α)(vs:List Value):Prop where
 own:w.ownsRow base t 3 v xs.length vs
 nou:zbG w v
 num:∀i x,xs[i]?=some x->∃(b:Bool) (B:oA9) (m d:Nat) (F:oA9) (u f:Nat),vs[i*3]?=some (.bool b)/\vs[i*3+1]?=some (.slice B m d)/\vs[i*3+2]?=some (.slice F u f)/\E w x b B m d F u f
section
variable {α:Type}{E:El α}
theorem zcw.nil (w:World)(base:Nat)(t:TypeId):zcw E w base t (.slice none 0 0) [] []:=⟨World.ownsRow_nil _ _ _ _,zbG.nil _ _,λi x hi=>by simp at hi⟩
theorem zcw.len {w:World}{base:Nat}{t:TypeId}{v:Value}{xs:List α}{vs:List Value}(h:zcw E w base t v xs vs):vs.length=xs.length*3:=h.own.1
theorem zcw.shape {w:World}{base:Nat}{t:TypeId}{v:Value}{xs:List α}{vs:List Value}(h:zcw E w base t v xs vs):∃A c,v=.slice A xs.length c/\zas E w A xs.length c xs/\∀ad,A=some ad->base<=ad.block:=by
 rcases h.own.2 with⟨rfl,h0⟩|⟨g,cap,cur,rfl,hbg,hg,hnc,hcm,hcs,htake⟩
 ·have hx:xs=[]:=List.eq_nil_of_length_eq_zero h0
  subst hx
  exact⟨none,0,rfl,zas.nil w,λad e=>by cases e⟩
 ·have hcell:=h.own.cells (g:=g) rfl
  refine⟨some ⟨g,0,none⟩,cap,rfl,⟨rfl,hnc,by unfold maxLen at hcm;omega,λi x hi=>?_⟩,λad e=>by injection e with e;subst e;exact hbg⟩
  obtain⟨b,B,m,d,F,u,f,h1,h2,h3,h4⟩:=h.num i x hi
  exact⟨_,b,B,m,d,F,u,f,rfl,(Array.getElem?_eq_some_iff.1 hg).1,hcell _ _ h1,hcell _ _ h2,hcell _ _ h3,h4⟩
theorem zcw.below (hE:zdM E){w w':World}{base:Nat}{t:TypeId}{v:Value}{xs:List α}{vs:List Value}(h:zcw E w base t v xs vs)(hb:Below w.heap.size w w'):zcw E w' base t v xs vs:=by
 refine⟨⟨h.own.1,?_⟩,h.nou.below hb,λi x hi=>?_⟩
 ·rcases h.own.2 with h1|⟨g,cap,cur,e1,e2,e3,e4⟩
  ·exact .inl h1
  ·exact .inr ⟨g,cap,cur,e1,e2,(hb.block g (Blk.lt (t:=t) (cs:=cur) e3)).trans e3,e4⟩
 ·obtain⟨b,B,m,d,F,u,f,h1,h2,h3,h4⟩:=h.num i x hi
  exact⟨b,B,m,d,F,u,f,h1,h2,h3,hE.below h4 hb⟩
theorem zcw.grow (hE:zdM E){w w':World}{base n:Nat}{t:TypeId}{v v':Value}{xs:List α}{vs:List Value}{x:α}{b:Bool}{B F:oA9}{m d u f:Nat}(h:zcw E w base t v xs vs)(hx:E w x b B m d F u f)
  (ho:w'.ownsRow base t 3 v' n (vs++[.bool b,.slice B m d,.slice F u f])) (hn:n=xs.length+1) (hg:w.grownBy w' v.ownBlock) (hnu:zbG w' v'):zcw E w' base t v' (xs++[x]) (vs++[.bool b,.slice B m d,.slice F u f]):=by
 have hl:=h.len
 refine⟨by rw [List.length_append,List.length_singleton,<-hn];exact ho,hnu,λi y hi=>?_⟩
 by_cases hlt:i<xs.length
 ·rw [List.getElem?_append_left hlt] at hi
  obtain⟨b1,B1,m1,d1,F1,u1,f1,h1,h2,h3,h4⟩:=h.num i y hi
  exact⟨b1,B1,m1,d1,F1,u1,f1,by rw [List.getElem?_append_left (by omega)];exact h1,by rw [List.getElem?_append_left (by omega)];exact h2,by rw [List.getElem?_append_left (by omega)];exact h3,hE.grown h4 hg h.nou⟩
 ·rw [List.getElem?_append_right (by omega)] at hi
  have hi2:i=xs.length:=by
   have:=(List.getElem?_eq_some_iff.1 hi).1
   simp at this
   omega
  subst hi2
  obtain rfl:x=y:=by
   rw [Nat.sub_self] at hi
   injection hi
  exact⟨b,B,m,d,F,u,f,by rw [List.getElem?_append_right (by omega),hl,Nat.sub_self];rfl,by rw [List.getElem?_append_right (by omega),hl,Nat.add_sub_cancel_left];rfl,by rw [List.getElem?_append_right (by omega),hl,Nat.add_sub_cancel_left];rfl,hE.grown hx hg h.nou⟩
end
theorem zfP {P:Program}(w:World){o:Oper}{a:Act}{K:Act->World->Prop}{Q:Exit->Act->World->Prop}(s x:Operand)(t:TypeId)
  (ho:o.op=.call {callee:=.builtin .append,args:=#[s,x],argTypes:=#[t,t]})
  (base:Nat) (e:TypeId) (i:TypeInfo) (z:Value) (size bytes:Nat) (ht:P.underlying t=some (.slice e)) (hi:P.info? e=some i) (hz:i.zero=some z)
  (hsize:i.size=size) (hby:i.bytes=bytes) (hzs:z.cells.size=size) (hsz:0<size)
  (v:Value) (n:Nat) (xs:List Value) (hs:a.eval s=v) (hown:w.ownsRow base e size v n xs)
  (ad:Addr) (m c:Nat) (news:List Value) (hx:a.eval x=.slice (some ad) m c) (hl:news.length=m*size) (hnews:∀j u,news[j]?=some u->w.cell? (ad.add j)=some u) (h1:∀u ∈ news,u.oneCell'=true)
  (h63:n+m<=maxLen) (hbytes:(n+m)*bytes<=140737488355328) (hbase:base<=w.heap.size)
  (hv:zbG w v) (hzn:∀u ∈ z.cells.toList,zgO u) (hnn:∀u ∈ news,zgO u)
  (h:∀v' w',w'.ownsRow base e size v' (n+m) (xs++news)->w.grownBy w' v.ownBlock->(v'.ownBlock=v.ownBlock\/v'.ownBlock=some w.heap.size)->zbG w' v'->K (a.put o.dst v') w'):Oper.wp P o a w K Q:=by
 obtain⟨v',w',hr,h2,h3,h4,h5⟩:=zfs (P:=P) w base t o.type e i z size bytes ht hi hz hsize hby hzs hsz v n xs hown ad m c news hl hnews h1 h63 hbytes hbase hv hzn hnn
 unfold Oper.wp execOp
 simp only [ho,resolve,invoke,builtin,Sem.run_bind,Sem.run_pure,Result.andThen_ok,List.map_toArray,List.map_cons,List.map_nil,hs,hx,hr]
 exact h v' w' h2 h3 h4 h5
theorem zeJ {w:World}{g:Nat}{t:TypeId}{b:Bool}{B F:oA9}{m d u f:Nat}(h:Blk w g t #[.bool b,.slice B m d,.slice F u f]):∀j v,[Value.bool b,.slice B m d,.slice F u f][j]?=some v->w.cell? ((⟨g,0,none⟩:Addr).add j)=some v:=λj v hv=>by
 rw [zaO]
 match j,hv with
 |0,hv=>simp at hv;subst hv;exact h.cell 0
 |1,hv=>simp at hv;subst hv;exact h.cell 1
 |2,hv=>simp at hv;subst hv;exact h.cell 2
theorem zgy (b:Bool)(B F:oA9)(m d u f:Nat):∀v ∈ [Value.bool b,.slice B m d,.slice F u f],v.oneCell'=true:=by intro v hv;simp at hv;rcases hv with rfl|rfl|rfl<;>rfl
theorem zgx (b:Bool)(B F:oA9)(m d u f:Nat):∀v ∈ [Value.bool b,.slice B m d,.slice F u f],zgO v:=by intro v hv y z;simp at hv;rcases hv with rfl|rfl|rfl<;>(intro h9;cases h9)
theorem zfI:∀u ∈(Value.agg #[.bool false,.slice none 0 0,.slice none 0 0]).cells.toList,zgO u:=by intro u hu y z;simp [Value.cells] at hu;rcases hu with rfl|rfl<;>(intro h9;cases h9)
