/- What this claim leans on. -/
import Derived.Test.YtcojjcjgbepicaaGreatDoorHJ8Look
namespace Go.Proofs.YtcojjcjgbepicaaGreatDoor
open Go Go.RowKit Go.Proofs.Tryz
set_option maxHeartbeats 16000000
set_option linter.unusedVariables false
abbrev El (α:Type):=World->α->Bool->oA9->Nat->Nat->oA9->Nat->Nat->Prop
def zbn (g:Nat)(w w':World):Prop:=w.heap.size<=w'.heap.size/\∀p:Addr,p.block<w.heap.size->p.block≠g->w'.cell? p=w.cell? p
theorem zbn.of_far {g:Nat}{w w':World}(h:zbS g w w'):zbn g w w':=⟨by rw [h.1];exact Nat.le_refl _,λp _ hp=>h.2 p hp⟩
theorem zbn.of_grown {g:Nat}{w w':World}(h:w.grownBy w' (some g)):zbn g w w':=
 ⟨h.size,λp hp a=>World.cell?_of_block (h.block p.block hp (λe=>a (by injection e)))⟩
theorem zbx {w w':World}(h:w.grownBy w' none):Below w.heap.size w w':=(Below.refl _ w).grown h (Nat.le_refl _) (λk e=>by cases e)
theorem zju {w w':World}{A:oA9}{n g:Nat}{k:IntKind}{l:List Nat}{t:TypeId}{cs:Array Value}(h:zav w w.heap.size 1 A n (zaw k l))(hk:Blk w g t cs)(a:NoU cs)(ho:zbn g w w'):zav w' w'.heap.size 1 A n (zaw k l):=by
 have b:=zkD h hk a;refine⟨h.1,λhn=>?_⟩;obtain⟨ad,e,hb,hc⟩:=h.2 hn;refine⟨ad,e,Nat.lt_of_lt_of_le hb ho.1,λj v hv=>?_⟩;rw [ho.2 (ad.add j) (by rw [zan];exact hb) (by rw [zan];exact b hn ad e)];exact hc j v hv
theorem zjI {w w':World}{x:Nat}{A:oA9}{n c g:Nat}{t:TypeId}{cs:Array Value}(h:zaf w x A n c)(hk:Blk w g t cs)(a:NoU cs)(ho:zbn g w w'):zaf w' x A n c:=⟨zju h.1 hk a ho,h.2⟩
theorem ziV {w w':World}{x:Nat}{A:oA9}{n c g:Nat}{t:TypeId}{cs:Array Value}(h:zal w x A n c)(hk:Blk w g t cs)(a:NoU cs)(ho:zbn g w w'):zal w' x A n c:=⟨zju h.1 hk a ho,h.2⟩
structure zbp {α:Type}(E:El α):Prop where
 below:∀{w w':World} {x:α} {b:Bool} {A:oA9} {n c:Nat} {F:oA9} {k f:Nat},E w x b A n c F k f->Below w.heap.size w w'->E w' x b A n c F k f
 offg:∀{w w':World} {x:α} {b:Bool} {A:oA9} {n c:Nat} {F:oA9} {k f g:Nat} {t:TypeId} {cs:Array Value},E w x b A n c F k f->Blk w g t cs->NoU cs->zbn g w w'->E w' x b A n c F k f
theorem zas:zbp zak where
 below h hb:=h.below hb
 offg h hk hcs ho:=by
  obtain⟨⟨h1,h2⟩,x,e,h3⟩:=h;exact⟨⟨h1,zjI h2 hk hcs ho⟩,x,e,zjI h3 hk hcs ho⟩
section
variable {α:Type}{E:El α}
structure zaE (E:El α)(w:World)(A:oA9)(n c:Nat)(xs:List α):Prop where
 len:xs.length=n
 fits:n<=c
 most:c<=9223372036854775807
 num:∀i x,xs[i]?=some x->∃(ad:Addr) (b:Bool) (B:oA9) (m d:Nat) (F:oA9) (u v:Nat),A=some ad/\ad.block<w.heap.size/\w.cell? (ad.add (i*3))=some (.bool b)/\w.cell? (ad.add (i*3+1))=some (.slice B m d)/\w.cell? (ad.add (i*3+2))=some (.slice F u v)/\E w x b B m d F u v
theorem zaE.below (hE:zbp E){w w':World}{A:oA9}{n c:Nat}{xs:List α}(h:zaE E w A n c xs)(hb:Below w.heap.size w w'):zaE E w' A n c xs:=
 ⟨h.len,h.fits,h.most,λi x hi=>by
  obtain⟨ad,b,B,m,d,F,u,v,e,h1,h2,h3,h4,h5⟩:=h.num i x hi;exact⟨ad,b,B,m,d,F,u,v,e,Nat.lt_of_lt_of_le h1 hb.size,zae hb h2,zae hb h3,zae hb h4,hE.below h5 hb⟩⟩
theorem zaE.nil (w:World):zaE E w none 0 0 []:=⟨rfl,Nat.le_refl _,de9,λi x hi=>by simp at hi⟩
theorem zaE.at_ {w:World}{A:oA9}{n c:Nat}{xs:List α}(h:zaE E w A n c xs){i:Nat}(hi:i<n)(d0:α):∃(ad:Addr) (b:Bool) (B:oA9) (m d:Nat) (F:oA9) (u v:Nat),A=some ad/\ad.block<w.heap.size/\w.cell? (ad.add (i*3))=some (.bool b)/\w.cell? (ad.add (i*3+1))=some (.slice B m d)/\w.cell? (ad.add (i*3+2))=some (.slice F u v)/\E w (xs.getD i d0) b B m d F u v:=by
 have hl:=h.len;refine h.num i _ ?_;rw [List.getD_eq_getElem?_getD,List.getElem?_eq_getElem om9];rfl
structure zbI (E:El α)(w:World)(t:TypeId)(g n:Nat)(xs:List α):Prop where
 len:xs.length=n
 blk:∃cs:Array Value,Blk w g t cs/\NoU cs/\cs.size=n*3
 num:∀i x,xs[i]?=some x->∃(b:Bool) (B:oA9) (m d:Nat) (F:oA9) (u v:Nat),w.cell? ⟨g,i*3,none⟩=some (.bool b)/\w.cell? ⟨g,i*3+1,none⟩=some (.slice B m d)/\w.cell? ⟨g,i*3+2,none⟩=some (.slice F u v)/\E w x b B m d F u v
theorem zbI.lt {w:World}{t:TypeId}{g n:Nat}{xs:List α}(h:zbI E w t g n xs):g<w.heap.size:=by
 obtain⟨cs,hk,_⟩:=h.blk;exact hk.lt
theorem zbI.below (hE:zbp E){w w':World}{t:TypeId}{g n:Nat}{xs:List α}(h:zbI E w t g n xs)(hb:Below w.heap.size w w'):zbI E w' t g n xs:=by
 refine⟨h.len,?_,λi x hi=>?_⟩
 ·obtain⟨cs,hk,h1,h2⟩:=h.blk;exact⟨cs,zad hb hk,h1,h2⟩
 ·obtain⟨b,B,m,d,F,u,v,h1,h2,h3,h4⟩:=h.num i x hi;exact⟨b,B,m,d,F,u,v,zae hb h1,zae hb h2,zae hb h3,hE.below h4 hb⟩
theorem zaF (g k:Nat):(⟨g,0,none⟩:Addr).add k=⟨g,k,none⟩:=by unfold Addr.add;split<;>simp_all
theorem zbI.row {w:World}{t:TypeId}{g n:Nat}{xs:List α}(h:zbI E w t g n xs)(hn:n<=9223372036854775807):zaE E w (some ⟨g,0,none⟩) n n xs:=
 ⟨h.len,Nat.le_refl _,hn,λi x hi=>by
  obtain⟨b,B,m,d,F,u,v,h1,h2,h3,h4⟩:=h.num i x hi;exact⟨_,b,B,m,d,F,u,v,rfl,h.lt,by rw [zaF];exact h1,by rw [zaF];exact h2,by rw [zaF];exact h3,h4⟩⟩
theorem zbI.ready {w:World}{t:TypeId}{g n:Nat}{xs:List α}(h:zbI E w t g n xs){i:Nat}(hi:i<n)(x y:Value):∃a b c:Value,w.cell? ⟨g,i*3,none⟩=some a/\w.frozen? ⟨g,i*3,none⟩=false/\(w.setCell ⟨g,i*3,none⟩ x).cell? ⟨g,i*3+1,none⟩=some b/\(w.setCell ⟨g,i*3,none⟩ x).frozen? ⟨g,i*3+1,none⟩=false/\
  ((w.setCell ⟨g,i*3,none⟩ x).setCell ⟨g,i*3+1,none⟩ y).cell? ⟨g,i*3+2,none⟩=some c/\((w.setCell ⟨g,i*3,none⟩ x).setCell ⟨g,i*3+1,none⟩ y).frozen? ⟨g,i*3+2,none⟩=false:=by
 obtain⟨cs,hk,h1,h2⟩:=h.blk;have d:=hk.set_ (i*3) x;have f:=d.set_ (i*3+1) y;have e0:i*3<cs.size:=om9;have e1:i*3+1<(cs.setIfInBounds (i*3) x).size:=by simp;omega
 have e2:i*3+2<((cs.setIfInBounds (i*3) x).setIfInBounds (i*3+1) y).size:=by simp;omega
 exact⟨_,_,_,(hk.cell _).trans (Array.getElem?_eq_getElem e0),hk.frozen _,(d.cell _).trans (Array.getElem?_eq_getElem e1),d.frozen _,(f.cell _).trans (Array.getElem?_eq_getElem e2),f.frozen _⟩
theorem zgc {cs:Array Value}(h:NoU cs)(i:Nat){v:Value}(hv:∀k z,v≠.int k z):NoU (cs.setIfInBounds i v):=by
 intro u hu;rw [Array.toList_setIfInBounds] at hu;rcases List.mem_or_eq_of_mem_set hu with hu|rfl
 ·exact h u hu
 ·exact hv
theorem offg3 (g i j k:Nat)(w:World)(x y z:Value):zbS g w (((w.setCell ⟨g,i,none⟩ x).setCell ⟨g,j,none⟩ y).setCell ⟨g,k,none⟩ z):=(((zbS.refl g w).set_ i x).set_ j y).set_ k z
theorem zbI.set_ (hE:zbp E){w:World}{t:TypeId}{g n:Nat}{xs:List α}(h:zbI E w t g n xs){i:Nat}(hi:i<n){x:α}{b:Bool}{B:oA9}{m d:Nat}{F:oA9}{u v:Nat}(hx:E w x b B m d F u v):
  zbI E (((w.setCell ⟨g,i*3,none⟩ (.bool b)).setCell ⟨g,i*3+1,none⟩ (.slice B m d)).setCell ⟨g,i*3+2,none⟩ (.slice F u v)) t g n (xs.set i x):=by
 obtain⟨cs,hk,h1,h2⟩:=h.blk;have ho:=zbn.of_far (offg3 g (i*3) (i*3+1) (i*3+2) w (.bool b) (.slice B m d) (.slice F u v));have a:=((hk.set_ (i*3) (.bool b)).set_ (i*3+1) (.slice B m d)).set_ (i*3+2) (.slice F u v);refine⟨by rw [List.length_set];exact h.len,⟨_,a,?_,by simp;exact h2⟩,λj y hj=>?_⟩
 ·exact zgc (zgc (zgc h1 _ (λ_ _ e=>by cases e)) _ (λ_ _ e=>by cases e)) _ (λ_ _ e=>by cases e)
 ·by_cases hij:i=j
  ·subst hij;have hl:=h.len;rw [List.getElem?_set_self om9] at hj;injection hj with hj;subst hj;refine⟨b,B,m,d,F,u,v,?_,?_,?_,hE.offg hx hk h1 ho⟩
   ·rw [a.cell,Array.getElem?_setIfInBounds_ne om9,Array.getElem?_setIfInBounds_ne om9,Array.getElem?_setIfInBounds_self_of_lt om9]
   ·rw [a.cell,Array.getElem?_setIfInBounds_ne om9,Array.getElem?_setIfInBounds_self_of_lt (by simp;omega)]
   ·rw [a.cell,Array.getElem?_setIfInBounds_self_of_lt (by simp;omega)]
  ·rw [List.getElem?_set_ne hij] at hj;obtain⟨b',B',m',d',F',u',v',c1,c2,c3,c4⟩:=h.num j y hj;refine⟨b',B',m',d',F',u',v',?_,?_,?_,hE.offg c4 hk h1 ho⟩
   ·rw [a.cell,Array.getElem?_setIfInBounds_ne om9,Array.getElem?_setIfInBounds_ne om9,Array.getElem?_setIfInBounds_ne om9,<-hk.cell];exact c1
   ·rw [a.cell,Array.getElem?_setIfInBounds_ne om9,Array.getElem?_setIfInBounds_ne om9,Array.getElem?_setIfInBounds_ne om9,<-hk.cell];exact c2
   ·rw [a.cell,Array.getElem?_setIfInBounds_ne om9,Array.getElem?_setIfInBounds_ne om9,Array.getElem?_setIfInBounds_ne om9,<-hk.cell];exact c3
end
theorem zbJ (z:Array Value)(n j:Nat)(h:j<n):(madeCells z n)[j]?=some z[j%z.size]!:=by
 unfold madeCells;rw [Array.getElem?_map,Array.getElem?_eq_getElem (by simpa using h)];simp
def zgs:Array Value:=#[.bool false,.slice none 0 0,.slice none 0 0]
theorem zrs (n:Nat):NoU (madeCells zgs n):=by
 intro v hv k z e;rw [Array.mem_toList_iff,Array.mem_iff_getElem?] at hv;obtain⟨j,hj⟩:=hv;have a:j<n:=by
  have:=(Array.getElem?_eq_some_iff.1 hj).1;rwa [size_madeCells] at this
 rw [zbJ _ _ _ a] at hj;have h3:j%3=0\/j%3=1\/j%3=2:=om9;rw [show zgs.size=3 from rfl] at hj;subst e;rcases h3 with h3|h3|h3<;>rw [h3] at hj<;>simp [zgs] at hj
theorem zbI.made {α:Type}{E:El α}(w:World)(t:TypeId)(n:Nat)(z0:α)(hz:∀w',E w' z0 false none 0 0 none 0 0):zbI E (w.alloc (.cells (madeCells zgs (n*3)) t)) t w.heap.size n (List.replicate n z0):=by
 have hk:=Blk.new w t (madeCells zgs (n*3));refine⟨si9,⟨_,hk,zrs _,size_madeCells _ _⟩,λi x hi=>?_⟩;have a:i<n:=by
  have:=(List.getElem?_eq_some_iff.1 hi).1;simpa using this
 obtain rfl:z0=x:=by
  rw [List.getElem?_replicate,if_pos a] at hi;injection hi
 have e0:(i*3)%3=0:=om9;have e1:(i*3+1)%3=1:=om9;have e2:(i*3+2)%3=2:=om9;refine⟨false,none,0,0,none,0,0,?_,?_,?_,hz _⟩
 ·rw [hk.cell,zbJ _ _ _ om9,show zgs.size=3 from rfl,e0];rfl
 ·rw [hk.cell,zbJ _ _ _ om9,show zgs.size=3 from rfl,e1];rfl
 ·rw [hk.cell,zbJ _ _ _ om9,show zgs.size=3 from rfl,e2];rfl
def zcy {α:Type}(z0:α)(ys:List α)(n i:Nat):List α:=ys.take i++List.replicate (n - i) z0
theorem zbV {α:Type}(z0:α)(ys:List α)(n:Nat):zcy z0 ys n 0=List.replicate n z0:=by simp [zcy]
theorem zcn {α:Type}(z0:α)(ys:List α)(n:Nat)(h:ys.length=n):zcy z0 ys n n=ys:=by simp [zcy,<-h]
theorem zco {α:Type}(z0:α)(ys:List α)(n i:Nat)(hl:ys.length=n)(hi:i<n)(y:α)(hy:ys[i]?=some y):(zcy z0 ys n i).set i y=zcy z0 ys n (i+1):=by
 unfold zcy;have a:i<ys.length:=om9;have e:(ys.take i).length=i:=by rw [List.length_take];omega
 rw [List.set_append_right _ _ om9,e,Nat.sub_self,List.take_succ_eq_append_getElem a,List.append_assoc];congr 1;obtain⟨m,hm⟩:∃m,n - i=m+1:=⟨n - i - 1,om9⟩;have b:n - (i+1)=m:=om9;rw [hm,b,List.replicate_succ];have hv:ys[i]=y:=by rw [List.getElem?_eq_getElem a] at hy;injection hy
 rw [hv];rfl
theorem zie (w:World):zaf w 0 none 0 0:=by
 refine⟨⟨by rw [show dg 18446744073709551616 0=[] from by rw [dg];rfl];rfl,λh=>absurd h de9⟩,Nat.le_refl _,de9⟩
theorem zjs (w:World):zak w (0:Rat) false none 0 0 none 0 0:=⟨⟨rfl,zie w⟩,⟨0,⟨rfl,de9⟩,zie w⟩⟩
abbrev zaL (w:World)(A:oA9)(n c:Nat)(xs:List Rat):Prop:=zaE zak w A n c xs
abbrev zda (w:World)(g n:Nat)(xs:List Rat):Prop:=zbI zak w 53 g n xs
theorem zaL.keep {w w':World}{A:oA9}{n c:Nat}{xs:List Rat}(h:zaL w A n c xs)(hb:Below w.heap.size w w'):zaL w' A n c xs:=zaE.below zas h hb
theorem zda.keep {w w':World}{g n:Nat}{xs:List Rat}(h:zda w g n xs)(hb:Below w.heap.size w w'):zda w' g n xs:=zbI.below zas h hb
def zft (w:World)(n:Nat)(xs:List Rat)(e:Ending)(w':World):Prop:=∃g,e=.returned (.slice (some ⟨g,0,none⟩) n n)/\w.heap.size<=g/\zda w' g n xs/\Below w.heap.size w w'
def zdA (w:World)(n:Nat)(xs:List Rat)(e:Ending)(w':World):Prop:=∃g,e=.returned (.tuple #[.slice (some ⟨g,0,none⟩) n n,.bool true])/\w.heap.size<=g/\zda w' g n xs/\Below w.heap.size w w'
theorem own_make (w:World)(n:Nat):zda (w.alloc (.cells (madeCells zgs (n*3)) 53)) w.heap.size n (List.replicate n 0):=zbI.made w _ n 0 zjs
theorem info10:(prog.info? 53).map (λi=>(i.zero,i.size,i.bytes))=some (some (.agg #[.bool false,.slice none 0 0,.slice none 0 0]),3,56):=kr9
theorem zfX {w:World}{ad:Addr}{k:Nat}{v:Value}(h:w.cell? (ad.add (k+1))=some v):w.cell? ⟨(ad.add k).block,(ad.add k).off+1,none⟩=some v:=by
 rw [<-zgv] at h;exact h
theorem zle {w:World}{ad:Addr}{k:Nat}{v:Value}(h:w.cell? (ad.add (k+2))=some v):w.cell? ⟨(ad.add k).block,(ad.add k).off+2,none⟩=some v:=by
 rw [<-zgv] at h;exact h
theorem zeL (n:Nat)(hn:n<=1099511627776):∃Z:Array Value,∀W:World,(Instr.makeSlice 71 (.int .i64 (n:Int)) (.int .i64 (n:Int))).run prog W=.ok (.slice (some ⟨W.heap.size,0,none⟩) n n) (W.alloc (.cells Z 53))/\zda (W.alloc (.cells Z 53)) W.heap.size n (List.replicate n 0):=by
 obtain⟨i0,a,b,c,d⟩:=info_parts info10;refine⟨madeCells zgs (n*3),λW=>⟨?_,own_make W n⟩⟩;have h:=zaW (P:=prog) _ _ i0 _ underlying71 a b .i64 .i64 n n (Nat.le_refl _) (by rw [d];omega) om9 W;rw [c] at h;exact h
theorem zaL.get {w wr:World}{A:oA9}{n c:Nat}{xs:List Rat}(h:zaL w A n c xs)(hb:Below w.heap.size w wr){i:Nat}(hi:i<n):∃(ad:Addr) (b:Bool) (B:oA9) (m d:Nat) (F:oA9) (u v:Nat),A=some ad/\ad.block<w.heap.size/\wr.cell? (ad.add (i*3))=some (.bool b)/\wr.cell? ⟨(ad.add (i*3)).block,(ad.add (i*3)).off+1,none⟩=some (.slice B m d)/\wr.cell? ⟨(ad.add (i*3)).block,(ad.add (i*3)).off+2,none⟩=some (.slice F u v)/\zak wr (xs.getD i 0) b B m d F u v:=by
 obtain⟨ad,b,B,m,d,F,u,v,e,h0,h1,h2,h3,h4⟩:=h.at_ hi 0;exact⟨ad,b,B,m,d,F,u,v,e,h0,zae hb h1,zae hb (zfX h2),zae hb (zle h3),h4.below hb⟩
theorem off_add {ad:Addr}{k g:Nat}(h:ad.block≠g):(ad.add k).block≠g:=by rw [zan];exact h
theorem zcB {w W:World}{g:Nat}(i j k:Nat)(x y z:Value)(hg:w.heap.size<=g)(h:Below w.heap.size w W):Below w.heap.size w (((W.setCell ⟨g,i,none⟩ x).setCell ⟨g,j,none⟩ y).setCell ⟨g,k,none⟩ z):=zag z hg (zag y hg (zag x hg h))
set_option maxRecDepth 100000
set_option linter.unusedSimpArgs false
theorem zkM {K x:Nat}(h:Sz K x):bitLen x<=64*K:=zds _ _ (by
 unfold Sz at h;rw [show(18446744073709551616:Nat)=2^64 from rfl,<-Nat.pow_mul] at h;exact h)
theorem zqP (r:Rat)(s:Rat)(o:Bool)(m:oA9)(i t:Nat)(z:oA9)(x H:Nat)(p:Bool)(n:oA9)(j u:Nat)(A:oA9)(y I:Nat)(w:World)(hT:zam w)(F:zak w r o m i t z x H)(G:zak w s p n j u A y I)(Y:zaT i x)(Z:zaT j y)(v:Int)(hv:zhy (r.num*((s.den:Nat):Int)) (s.num*((r.den:Nat):Int))=v):
  Calls prog 164 #[.agg #[.bool o,.slice m i t,.slice z x H],.agg #[.bool p,.slice n j u,.slice A y I]] w (zcl w v):=by
 have aa:=lh9 (zca (T:=zam));have HT:=up9 w (λw' hb=>hT.on hb);have HTB:=HT;obtain⟨K,O⟩:∃K,67108864=K:=⟨_,rfl⟩;have hKK:K<=67108864:=om9;have hK0:0<K:=om9;have HV:=lh9 hv;have J:=up9 w (λw' b=>F.below b);obtain⟨ad,M,P⟩:=F.2;have k:Hid (SzQ K r):=zaS F Y O;have D:Hid (Sz K r.num.natAbs):=k.out.num;have HZaaq:Hid (Sz K ad):=zax k.out.den M;have B:=up9 w (λw' b=>F.1.below b);clear F Y M P;have L:=up9 w (λw' b=>G.below b);obtain⟨ae,N,Q⟩:=G.2;have l:Hid (SzQ K s):=zaS G Z O;have E:Hid (Sz K s.num.natAbs):=l.out.num;have HZabq:Hid (Sz K ae):=zax l.out.den N;have C:=up9 w (λw' b=>G.1.below b);clear G Z N Q;clear hT O hv;go_enter func164,ntmps164;have hB:=Below.refl w.heap.size w;obtain⟨U,V,X,bz⟩:=zbg w 53 53 #[.bool o,.slice m i t,.slice z x H] #[.bool p,.slice n j u,.slice A y I];have hB:=zac hB U;obtain⟨g1,e1,i1⟩:=V.c3;obtain⟨g2,e2,i2⟩:=X.c3;clear U V X bz;go_wp2_with fail;generalize (w.alloc (.cells #[.bool o,.slice m i t,.slice z x H] 53)).alloc (.cells #[.bool p,.slice n j u,.slice A y I] 53)=W1 at*;have R:Hid (Sz (K) (s.den)):=SzQ.den l.out;have C0:=up9 W1 (λw' h=>zcK (s) p n j u A y I w' (HT.out _ (zac hB h)) (L.out _ (zac hB h)) (szq l (L.out _ hB)));have ab:Hid (Sz (K+K) (r.num*((s.den:Nat):Int)).natAbs):=zht D.out R.out;have C1:=up9 W1 (λw' h B3 m3 d3 (c:zaf w' (s.den) B3 m3 d3)=>zgd (r.num) (s.den) o m i t B3 m3 d3 w' (HT.out _ (zac hB h)) (B.out _ (zac hB h)) c (szi D (B.out _ hB)) (szw R c));have S:Hid (Sz (K) (r.den)):=SzQ.den k.out;have C2:=up9 W1 (λw' h=>zcK (r) o m i t z x H w' (HT.out _ (zac hB h)) (J.out _ (zac hB h)) (szq k (J.out _ hB)));have ac:Hid (Sz (K+K) (s.num*((r.den:Nat):Int)).natAbs):=zht E.out S.out;have C3:=up9 W1 (λw' h B5 m5 d5 (f:zaf w' (r.den) B5 m5 d5)=>zgd (s.num) (r.den) p n j u B5 m5 d5 w' (HT.out _ (zac hB h)) (C.out _ (zac hB h)) f (szi E (C.out _ hB)) (szw S f));have C4:=up9 W1 (λw' h b4 B4 m4 d4 (d:zaK w' (r.num*((s.den:Nat):Int)) b4 B4 m4 d4) b6 B6 m6 d6 (g:zaK w' (s.num*((r.den:Nat):Int)) b6 B6 m6 d6)=>zbX (v:=v) (HV.out) (aa.out.cmp (r.num*((s.den:Nat):Int)) (s.num*((r.den:Nat):Int)) b4 b6 B4 B6 m4 m6 d4 d6 w' (HT.out _ (zac hB h)) d g (szi ab d) (szi ac g)));have a:=(Below.refl W1.heap.size W1).drew;refine rg (csc g1 (csc e1 (csc i1 (csc g2 (csc e2 (csc i2 csn)))))) (λhHeld=>?_);refine tk 0 ?_;refine tk 1 ?_;refine tk 2 ?_;refine tk 5 ?_;refine tk 6 ?_;refine tk 7 ?_;refine rc 3 (λK hK=>?_);go_simp;go_at_call 123;(with_reducible refine(C0.out _ a).mono ?_);rintro e wa2 ⟨B3,m3,d3,rfl,c,hb⟩;have a:=zac a hb;refine hK.out _ _ (Cs.below hHeld hb) (λhHeld=>?_);clear hK K hb
 try simp only [sb9]
 refine rc 4 (λK hK=>?_);go_simp;go_at_call 191;(with_reducible refine(C1.out _ a _ _ _ c).mono ?_);rintro e wa3 ⟨b4,B4,m4,d4,rfl,d,hb⟩;have a:=zac a hb;have c:=c.below hb;refine hK.out _ _ (Cs.below hHeld hb) (λhHeld=>?_);clear hK K hb
 try simp only [sb9]
 refine rc 8 (λK hK=>?_);go_simp;go_at_call 123;(with_reducible refine(C2.out _ a).mono ?_);rintro e wa4 ⟨B5,m5,d5,rfl,f,hb⟩;have a:=zac a hb;have c:=c.below hb;have d:=d.below hb;refine hK.out _ _ (Cs.below hHeld hb) (λhHeld=>?_);clear hK K hb
 try simp only [sb9]
 refine rc 9 (λK hK=>?_);go_simp;go_at_call 191;(with_reducible refine(C3.out _ a _ _ _ f).mono ?_);rintro e wa5 ⟨b6,B6,m6,d6,rfl,g,hb⟩;have a:=zac a hb;have c:=c.below hb;have d:=d.below hb;have f:=f.below hb;refine hK.out _ _ (Cs.below hHeld hb) (λhHeld=>?_);clear hK K hb
 try simp only [sb9]
 refine rc 10 (λK hK=>?_);go_simp;go_at_call 117;(with_reducible refine(C4.out _ a _ _ _ _ d _ _ _ _ g).mono ?_);rintro e wa6 ⟨rfl,hb⟩;have a:=zac a hb;have c:=c.below hb;have d:=d.below hb;have f:=f.below hb;have g:=g.below hb;refine hK.out _ _ (Cs.below hHeld hb) (λhHeld=>?_);clear hK K hb
 try simp only [sb9]
 refine tk 11 ?_;refine rdn ?_;have hB:=zac hB a;obtain⟨g1,e1,i1,g2,e2,i2⟩:=zae6 a g1 e1 i1 g2 e2 i2;clear a hHeld c d f g C0 C1 C2 C3 C4;go_wp2;go_ret;exact⟨by first|rfl|simp,hB⟩
theorem zpJ (r s:Rat)(j:Bool)(f:oA9)(a l:Nat)(h:oA9)(c n:Nat)(k:Bool)(g:oA9)(b m:Nat)(i:oA9)(d o:Nat)(w:World)(hT:zam w)(p:zak w r j f a l h c n)(t:zak w s k g b m i d o)(u:zaT a c)(v:zaT b d):
  Calls prog 164 #[.agg #[.bool j,.slice f a l,.slice h c n],.agg #[.bool k,.slice g b m,.slice i d o]] w (zcl w (zgx r s)):=by
 exact zqP r s j f a l h c n k g b m i d o w hT p t u v (zgx r s) (znY r s).symm
theorem zoM (r:Rat)(s:Rat)(j:Bool)(f:oA9)(a l:Nat)(p:oA9)(n y:Nat)(k:Bool)(g:oA9)(d m:Nat)(t:oA9)(o z:Nat)(w:World)(hT:zam w)(u:zak w r j f a l p n y)(x:zak w s k g d m t o z)(N:zaT a n)(O:zaT d o)(h0:r.num≠s.num):
  Calls prog 55 #[.agg #[.bool j,.slice f a l,.slice p n y],.agg #[.bool k,.slice g d m,.slice t o z]] w (λe w'=>e=.returned (.bool false)/\Below w.heap.size w w'):=by
 have P:=lh9 (zca (T:=zam));have HT:=up9 w (λw' hb=>hT.on hb);have HTB:=HT;obtain⟨K,G⟩:∃K,67108864=K:=⟨_,rfl⟩;have hKK:K<=67108864:=om9;have hK0:0<K:=om9;obtain⟨c,hc⟩:∃c,zhy r.num s.num=c:=⟨_,rfl⟩;have HC:=lh9 hc;have kb1:(c==0)=false:=by
  rw [beq_eq_false_iff_ne];intro h9;rw [h9] at hc;exact h0 ((zim _ _).1 hc)
 clear hc;obtain⟨Q,C,H⟩:=u.2;have A:Hid (SzQ K r):=zaS u N G;have E:Hid (Sz K r.num.natAbs):=A.out.num;have HZaaq:Hid (Sz K Q):=zax A.out.den C;have h:=up9 w (λw' b=>u.1.below b);clear u N C H;obtain⟨R,D,I⟩:=x.2;have B:Hid (SzQ K s):=zaS x O G;have F:Hid (Sz K s.num.natAbs):=B.out.num;have HZabq:Hid (Sz K R):=zax B.out.den D;have i:=up9 w (λw' b=>x.1.below b);clear x O D I;clear hT G h0;go_enter func55,ntmps55;have hB:=Below.refl w.heap.size w;obtain⟨J,L,M,bz⟩:=zbg w 53 53 #[.bool j,.slice f a l,.slice p n y] #[.bool k,.slice g d m,.slice t o z];have hB:=zac hB J;obtain⟨g1,e1,i1⟩:=L.c3;obtain⟨g2,e2,i2⟩:=M.c3;clear J L M bz;go_wp2_with fail;generalize (w.alloc (.cells #[.bool j,.slice f a l,.slice p n y] 53)).alloc (.cells #[.bool k,.slice g d m,.slice t o z] 53)=W1 at*;(with_reducible refine(zbX (v:=c) (HC.out) (P.out.cmp (r.num) (s.num) j k f g a d l m _ (HT.out _ hB) (h.out _ hB) (i.out _ hB) (szi E (h.out _ hB)) (szi F (i.out _ hB)))).mono ?_);rintro e wc2 ⟨rfl,hb⟩;have hB:=zac hB hb;obtain⟨g1,e1,i1,g2,e2,i2⟩:=zae6 hb g1 e1 i1 g2 e2 i2;clear hb ;go_wp2;go_ret;exact⟨by first|rfl|simp,hB⟩
theorem zoN (r:Rat)(s:Rat)(p:Bool)(h:oA9)(a u:Nat)(j:oA9)(f C:Nat)(t:Bool)(i:oA9)(d x:Nat)(k:oA9)(g D:Nat)(w:World)(hT:zam w)(G:zak w r p h a u j f C)(H:zak w s t i d x k g D)(Y:zaT a f)(Z:zaT d g)(h0:r.num=s.num)(h1:r.den≠s.den):
  Calls prog 55 #[.agg #[.bool p,.slice h a u,.slice j f C],.agg #[.bool t,.slice i d x,.slice k g D]] w (λe w'=>e=.returned (.bool false)/\Below w.heap.size w w'):=by
 have ab:=lh9 (zca (T:=zam));have HT:=up9 w (λw' hb=>hT.on hb);have HTB:=HT;obtain⟨K,P⟩:∃K,67108864=K:=⟨_,rfl⟩;have hKK:K<=67108864:=om9;have hK0:0<K:=om9;obtain⟨E,y,A⟩:=G.2;have Q:=lh9 y;have I:Hid (SzQ K r):=zaS G Y P;have L:Hid (Sz K r.num.natAbs):=I.out.num;have M:Hid (Sz K E):=zax I.out.den y;have l:=up9 w (λw' b=>G.1.below b);have m:=up9 w (λw' b=>A.below b);clear G Y y A;obtain⟨F,z,B⟩:=H.2;have R:=lh9 z;have J:Hid (SzQ K s):=zaS H Z P;have N:Hid (Sz K s.num.natAbs):=J.out.num;have O:Hid (Sz K F):=zax J.out.den z;have n:=up9 w (λw' b=>H.1.below b);have o:=up9 w (λw' b=>B.below b);clear H Z z B;have aa:Hid (zhy r.num s.num=0):=(zim _ _).2 h0;have X:E≠F:=λh9=>h1 (by rw [Q.out.1,R.out.1,h9]);obtain⟨c,hc⟩:∃c,zby E F=c:=⟨_,rfl⟩;have HC:=lh9 hc;have kb1:(c==0)=false:=by
  rw [beq_eq_false_iff_ne];intro h9;rw [h9] at hc;rcases Nat.lt_trichotomy E F with h8|h8|h8
  ·rw [zcZ h8] at hc;omega
  ·exact X h8
  ·rw [zcY h8] at hc;omega
 clear hc;clear X;clear hT P h0 h1;go_enter func55,ntmps55;have hB:=Below.refl w.heap.size w;obtain⟨S,U,V,bz⟩:=zbg w 53 53 #[.bool p,.slice h a u,.slice j f C] #[.bool t,.slice i d x,.slice k g D];have hB:=zac hB S;obtain⟨g1,e1,i1⟩:=U.c3;obtain⟨g2,e2,i2⟩:=V.c3;clear S U V bz;go_wp2_with fail;generalize (w.alloc (.cells #[.bool p,.slice h a u,.slice j f C] 53)).alloc (.cells #[.bool t,.slice i d x,.slice k g D] 53)=W1 at*;(with_reducible refine(zbX (v:=0) (aa.out) (ab.out.cmp (r.num) (s.num) p t h i a d u x _ (HT.out _ hB) (l.out _ hB) (n.out _ hB) (szi L (l.out _ hB)) (szi N (n.out _ hB)))).mono ?_);rintro e wc2 ⟨rfl,hb⟩;have hB:=zac hB hb;obtain⟨g1,e1,i1,g2,e2,i2⟩:=zae6 hb g1 e1 i1 g2 e2 i2;clear hb ;go_wp2_with fail;(with_reducible refine(zbX (v:=c) (HC.out) (zfh (E) (F) j k f g C D _ (m.out _ hB) (o.out _ hB) (szw M (m.out _ hB)) (szw O (o.out _ hB)))).mono ?_);rintro e wc3 ⟨rfl,hb⟩;have hB:=zac hB hb;obtain⟨g1,e1,i1,g2,e2,i2⟩:=zae6 hb g1 e1 i1 g2 e2 i2;clear hb ;go_wp2;go_ret;exact⟨by first|rfl|simp,hB⟩
theorem zoO (r:Rat)(s:Rat)(o:Bool)(g:oA9)(a t:Nat)(i:oA9)(d B:Nat)(p:Bool)(h:oA9)(c u:Nat)(j:oA9)(f C:Nat)(w:World)(hT:zam w)(D:zak w r o g a t i d B)(E:zak w s p h c u j f C)(V:zaT a d)(X:zaT c f)(h0:r.num=s.num)(h1:r.den=s.den):
  Calls prog 55 #[.agg #[.bool o,.slice g a t,.slice i d B],.agg #[.bool p,.slice h c u,.slice j f C]] w (λe w'=>e=.returned (.bool true)/\Below w.heap.size w w'):=by
 have aa:=lh9 (zca (T:=zam));have HT:=up9 w (λw' hb=>hT.on hb);have HTB:=HT;obtain⟨K,Q⟩:∃K,67108864=K:=⟨_,rfl⟩;have hKK:K<=67108864:=om9;have hK0:0<K:=om9;obtain⟨F,x,z⟩:=D.2;have H:=lh9 x;have J:Hid (SzQ K r):=zaS D V Q;have M:Hid (Sz K r.num.natAbs):=J.out.num;have N:Hid (Sz K F):=zax J.out.den x;have k:=up9 w (λw' b=>D.1.below b);have l:=up9 w (λw' b=>z.below b);clear D V x z;obtain⟨G,y,A⟩:=E.2;have I:=lh9 y;have L:Hid (SzQ K s):=zaS E X Q;have O:Hid (Sz K s.num.natAbs):=L.out.num;have P:Hid (Sz K G):=zax L.out.den y;have m:=up9 w (λw' b=>E.1.below b);have n:=up9 w (λw' b=>A.below b);clear E X y A;have Y:Hid (zhy r.num s.num=0):=(zim _ _).2 h0;have Z:Hid (zby F G=0):=by
  have e:F=G:=by
   by_cases h9:r.den=1
   ·rw [zgI H.out h9,zgI I.out (h1▸h9)]
   ·rw [(zet H.out h9).2,(zet I.out (h1▸h9)).2,h1]
  show _=_;rw [e];exact zdV rfl
 clear hT Q h0 h1;go_enter func55,ntmps55;have hB:=Below.refl w.heap.size w;obtain⟨R,S,U,bz⟩:=zbg w 53 53 #[.bool o,.slice g a t,.slice i d B] #[.bool p,.slice h c u,.slice j f C];have hB:=zac hB R;obtain⟨g1,e1,i1⟩:=S.c3;obtain⟨g2,e2,i2⟩:=U.c3;clear R S U bz;go_wp2_with fail;generalize (w.alloc (.cells #[.bool o,.slice g a t,.slice i d B] 53)).alloc (.cells #[.bool p,.slice h c u,.slice j f C] 53)=W1 at*;(with_reducible refine(zbX (v:=0) (Y.out) (aa.out.cmp (r.num) (s.num) o p g h a c t u _ (HT.out _ hB) (k.out _ hB) (m.out _ hB) (szi M (k.out _ hB)) (szi O (m.out _ hB)))).mono ?_);rintro e wc2 ⟨rfl,hb⟩;have hB:=zac hB hb;obtain⟨g1,e1,i1,g2,e2,i2⟩:=zae6 hb g1 e1 i1 g2 e2 i2;clear hb ;go_wp2_with fail;(with_reducible refine(zbX (v:=0) (Z.out) (zfh (F) (G) i j d f B C _ (l.out _ hB) (n.out _ hB) (szw N (l.out _ hB)) (szw P (n.out _ hB)))).mono ?_);rintro e wc3 ⟨rfl,hb⟩;have hB:=zac hB hb;obtain⟨g1,e1,i1,g2,e2,i2⟩:=zae6 hb g1 e1 i1 g2 e2 i2;clear hb ;go_wp2;go_ret;exact⟨by first|rfl|simp,hB⟩
theorem zno (r s:Rat)(j:Bool)(f:oA9)(a l:Nat)(h:oA9)(c n:Nat)(k:Bool)(g:oA9)(b m:Nat)(i:oA9)(d o:Nat)(w:World)(hT:zam w)(p:zak w r j f a l h c n)(t:zak w s k g b m i d o)(u:zaT a c)(v:zaT b d):
  Calls prog 55 #[.agg #[.bool j,.slice f a l,.slice h c n],.agg #[.bool k,.slice g b m,.slice i d o]] w (λe w'=>e=.returned (.bool (decide (r=s)))/\Below w.heap.size w w'):=by
 by_cases h0:r.num=s.num
 ·by_cases h1:r.den=s.den
  ·rw [decide_eq_true (Rat.ext h0 h1)];exact zoO r s j f a l h c n k g b m i d o w hT p t u v h0 h1
  ·rw [decide_eq_false (λh9=>h1 (by rw [h9]))];exact zoN r s j f a l h c n k g b m i d o w hT p t u v h0 h1
 ·rw [decide_eq_false (λh9=>h0 (by rw [h9]))];exact zoM r s j f a l h c n k g b m i d o w hT p t u v h0
theorem rat_bits (r:Rat)(j:Bool)(i:oA9)(g k:Nat)(m:oA9)(l s:Nat)(w:World)(hT:zam w)(p:zak w r j i g k m l s)(D:zaT g l):
  Calls prog 91 #[.agg #[.bool j,.slice i g k,.slice m l s]] w (zcl w ((bitLen r.num.natAbs+bitLen r.den:Nat):Int)):=by
 have E:=lh9 (zca (T:=zam));have HT:=up9 w (λw' hb=>hT.on hb);have HTB:=HT;obtain⟨K,A⟩:∃K,67108864=K:=⟨_,rfl⟩;have hKK:K<=67108864:=om9;have hK0:0<K:=om9;obtain⟨pa,B⟩:∃v,((bitLen r.num.natAbs:Nat):Int)=v:=⟨_,rfl⟩;obtain⟨pb,C⟩:∃v,((bitLen r.den:Nat):Int)=v:=⟨_,rfl⟩;have F:=lh9 B;have G:=lh9 C;have t:=up9 w (λw' b=>p.below b);obtain⟨N,u,x⟩:=p.2;have d:Hid (SzQ K r):=zaS p D A;have o:Hid (Sz K r.num.natAbs):=d.out.num;have HZaaq:Hid (Sz K N):=zax d.out.den u;have n:=up9 w (λw' b=>p.1.below b);clear p D u x;have L:=zkM d.out.num;have M:=zkM d.out.den;have H:Hid (IntKind.i64.wrap (pa+pb)=((bitLen r.num.natAbs+bitLen r.den:Nat):Int)):=by
  show _=_;rw [IntKind.wrap_i64];omega
 clear hT A B C L M;go_enter func91,ntmps91;have hB:=Below.refl w.heap.size w;obtain⟨y,z,bz⟩:=zaD w 53 #[.bool j,.slice i g k,.slice m l s];have hB:=zac hB y;obtain⟨g1,e1,i1⟩:=z.c3;clear y z bz;go_wp2_with fail;generalize w.alloc (.cells #[.bool j,.slice i g k,.slice m l s] 53)=W1 at*;have I:Hid (Sz (K) (r.num.natAbs)):=o.out;have C0:=up9 W1 (λw' h=>E.out.abs (r.num) j i g k w' (HT.out _ (zac hB h)) (n.out _ (zac hB h)) (szi o (n.out _ hB)));have C1:=up9 W1 (λw' h B2 m2 d2 (c:zaf w' (r.num.natAbs) B2 m2 d2)=>zbX (v:=pa) (F.out) (zmj (r.num.natAbs) B2 m2 d2 w' c (szw I c)));have J:Hid (Sz (K) (r.den)):=SzQ.den d.out;have C2:=up9 W1 (λw' h=>zcK (r) j i g k m l s w' (HT.out _ (zac hB h)) (t.out _ (zac hB h)) (szq d (t.out _ hB)));have C3:=up9 W1 (λw' h B3 m3 d3 (f:zaf w' (r.den) B3 m3 d3)=>zbX (v:=pb) (G.out) (zmj (r.den) B3 m3 d3 w' f (szw J f)));have a:=(Below.refl W1.heap.size W1).drew;refine rg (csc g1 (csc e1 (csc i1 csn))) (λhHeld=>?_);refine tk 0 ?_;refine tk 1 ?_;refine tk 4 ?_;refine rc 2 (λK hK=>?_);go_simp;go_at_call 109;(with_reducible refine(C0.out _ a).mono ?_);rintro e wa2 ⟨B2,m2,d2,rfl,c,hb⟩;have a:=zac a hb;refine hK.out _ _ (Cs.below hHeld hb) (λhHeld=>?_);clear hK K hb
 try simp only [sb9]
 refine rc 3 (λK hK=>?_);go_simp;go_at_call 155;(with_reducible refine(C1.out _ a _ _ _ c).mono ?_);rintro e wa3 ⟨rfl,hb⟩;have a:=zac a hb;have c:=c.below hb;refine hK.out _ _ (Cs.below hHeld hb) (λhHeld=>?_);clear hK K hb
 try simp only [sb9]
 refine rc 5 (λK hK=>?_);go_simp;go_at_call 123;(with_reducible refine(C2.out _ a).mono ?_);rintro e wa4 ⟨B3,m3,d3,rfl,f,hb⟩;have a:=zac a hb;have c:=c.below hb;refine hK.out _ _ (Cs.below hHeld hb) (λhHeld=>?_);clear hK K hb
 try simp only [sb9]
 refine rc 6 (λK hK=>?_);go_simp;go_at_call 155;(with_reducible refine(C3.out _ a _ _ _ f).mono ?_);rintro e wa5 ⟨rfl,hb⟩;have a:=zac a hb;have c:=c.below hb;have f:=f.below hb;refine hK.out _ _ (Cs.below hHeld hb) (λhHeld=>?_);clear hK K hb
 try simp only [sb9]
 refine tk 7 ?_;refine tk 8 ?_;refine rdn ?_;have hB:=zac hB a;obtain⟨g1,e1,i1⟩:=zae3 a g1 e1 i1;clear a hHeld c f C0 C1 C2 C3;go_wp2;go_ret;exact⟨by rw [<-H.out];rfl,hB⟩
