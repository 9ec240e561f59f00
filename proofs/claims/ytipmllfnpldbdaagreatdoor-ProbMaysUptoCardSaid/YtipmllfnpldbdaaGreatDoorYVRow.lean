/- What this claim leans on. -/
import Derived.Test.YtipmllfnpldbdaaGreatDoorYW8Far
import Derived.Laws.AppendOwn
set_option linter.unusedVariables false
set_option linter.unusedSimpArgs false
namespace Go.Proofs.YtipmllfnpldbdaaGreatDoor
open Go Go.RowKit Go.Proofs.Tryz
set_option maxHeartbeats 16000000
variable {ad:Addr}{cs:Array Value}{xs:List Rat}{c g x:Nat}{t:TypeId}{v:Value}{w w':World}{A:zf}
abbrev El (α:Type):=World->α->Bool->zf->Nat->Nat->zf->Nat->Nat->Prop
def zY (g:Nat)(w w':World):Prop:=w.heap.size<=w'.heap.size/\∀p:Addr,p.block<w.heap.size->p.block≠g->w'.cell? p=w.cell? p
theorem zY.of_far (h:xe g w w'):zY g w w':=⟨by rw [h.1];exact qX _,λp _ hp=>h.2 p hp⟩
theorem zY.of_grown (h:w.grownBy w' (some g)):zY g w w':=
 ⟨h.size,λp hp a=>World.cell?_of_block (h.block p.block hp (λe=>a (by injection e)))⟩
theorem mw (h:w.grownBy w' none):Below w.heap.size w w':=(qY _ w).grown h (qX _) (λk e=>by cases e)
theorem cD {n:Nat}{k:IntKind}{l:List Nat}(h:zE w w.heap.size 1 A n (zw k l))(hk:zi w g t cs)(a:yd cs)(ho:zY g w w'):zE w' w'.heap.size 1 A n (zw k l):=by
 have d:=d8 h hk a;refine⟨h.1,λhn=>?_⟩;obtain⟨ad,e,hb,hc⟩:=h.2 hn;refine⟨ad,e,qJ hb ho.1,λj v hv=>?_⟩;rw [ho.2 (ad.add j) (by rw [y9];exact hb) (by rw [y9];exact d hn ad e)];exact hc j v hv
theorem cJ {n:Nat}(h:zp w x A n c)(hk:zi w g t cs)(a:yd cs)(ho:zY g w w'):zp w' x A n c:=⟨cD h.1 hk a ho,h.2⟩
theorem eB {n:Nat}(h:rK w x A n c)(hk:zi w g t cs)(a:yd cs)(ho:zY g w w'):rK w' x A n c:=⟨cD h.1 hk a ho,h.2⟩
structure sZ {α:Type}(E:El α):Prop where
 below:∀{w w':World} {x:α} {b:Bool} {A:zf} {n c:Nat} {F:zf} {k f:Nat},E w x b A n c F k f->Below w.heap.size w w'->E w' x b A n c F k f
 offg:∀{w w':World} {x:α} {b:Bool} {A:zf} {n c:Nat} {F:zf} {k f g:Nat} {t:TypeId} {cs:Array Value},E w x b A n c F k f->zi w g t cs->yd cs->zY g w w'->E w' x b A n c F k f
theorem y6:sZ zu where
 below h hb:=h.below hb
 offg h hk hcs ho:=by
  obtain⟨⟨h1,h2⟩,x,e,h3⟩:=h;exact⟨⟨h1,cJ h2 hk hcs ho⟩,x,e,cJ h3 hk hcs ho⟩
section
variable {α:Type}{E:El α}
structure yf (E:El α)(w:World)(A:zf)(n c:Nat)(xs:List α):Prop where
 len:xs.length=n
 fits:n<=c
 most:c<=9223372036854775807
 num:∀i x,xs[i]?=some x->∃(ad:Addr) (b:Bool) (B:zf) (m d:Nat) (F:zf) (u v:Nat),A=some ad/\ad.block<w.heap.size/\w.cell? (ad.add (i*3))=some (.bool b)/\w.cell? (ad.add (i*3+1))=some (.slice B m d)/\w.cell? (ad.add (i*3+2))=some (.slice F u v)/\E w x b B m d F u v
theorem yf.below (hE:sZ E){w w':World}{A:zf}{n c:Nat}{xs:List α}(h:yf E w A n c xs)(hb:Below w.heap.size w w'):yf E w' A n c xs:=
 ⟨h.len,h.fits,h.most,λi x hi=>by
  obtain⟨ad,b,B,m,d,F,u,v,e,h1,h2,h3,h4,h5⟩:=h.num i x hi;exact⟨ad,b,B,m,d,F,u,v,e,qJ h1 hb.size,zq hb h2,zq hb h3,zq hb h4,hE.below h5 hb⟩⟩
theorem yf.nil (w:World):yf E w none 0 0 []:=⟨rfl,qX _,zh,λi x hi=>by simp at hi⟩
theorem yf.at_ {n:Nat}{xs:List α}(h:yf E w A n c xs){i:Nat}(hi:i<n)(d0:α):∃(ad:Addr) (b:Bool) (B:zf) (m d:Nat) (F:zf) (u v:Nat),A=some ad/\ad.block<w.heap.size/\w.cell? (ad.add (i*3))=some (.bool b)/\w.cell? (ad.add (i*3+1))=some (.slice B m d)/\w.cell? (ad.add (i*3+2))=some (.slice F u v)/\E w (xs.getD i d0) b B m d F u v:=by
 have hl:=h.len;refine h.num i _ ?_;rw [qQ,qZ za];rfl
structure yF (E:El α)(w:World)(t:TypeId)(g n:Nat)(xs:List α):Prop where
 len:xs.length=n
 blk:∃cs:Array Value,zi w g t cs/\yd cs/\cs.size=n*3
 num:∀i x,xs[i]?=some x->∃(b:Bool) (B:zf) (m d:Nat) (F:zf) (u v:Nat),w.cell? ⟨g,i*3,none⟩=some (.bool b)/\w.cell? ⟨g,i*3+1,none⟩=some (.slice B m d)/\w.cell? ⟨g,i*3+2,none⟩=some (.slice F u v)/\E w x b B m d F u v
theorem yF.lt {t:TypeId}{n:Nat}{xs:List α}(h:yF E w t g n xs):g<w.heap.size:=by
 obtain⟨cs,hk,_⟩:=h.blk;exact hk.lt
theorem yF.below (hE:sZ E){w w':World}{t:TypeId}{g n:Nat}{xs:List α}(h:yF E w t g n xs)(hb:Below w.heap.size w w'):yF E w' t g n xs:=by
 refine⟨h.len,?_,λi x hi=>?_⟩
 ·obtain⟨cs,hk,h1,h2⟩:=h.blk;exact⟨cs,zj hb hk,h1,h2⟩
 ·obtain⟨b,B,m,d,F,u,v,h1,h2,h3,h4⟩:=h.num i x hi;exact⟨b,B,m,d,F,u,v,zq hb h1,zq hb h2,zq hb h3,hE.below h4 hb⟩
theorem xn (g k:Nat):(⟨g,0,none⟩:Addr).add k=⟨g,k,none⟩:=by unfold Addr.add;split<;>simp_all
theorem yF.row {n:Nat}{xs:List α}(h:yF E w t g n xs)(hn:n<=9223372036854775807):yf E w (some ⟨g,0,none⟩) n n xs:=
 ⟨h.len,qX _,hn,λi x hi=>by
  obtain⟨b,B,m,d,F,u,v,h1,h2,h3,h4⟩:=h.num i x hi;exact⟨_,b,B,m,d,F,u,v,rfl,h.lt,by rw [xn];exact h1,by rw [xn];exact h2,by rw [xn];exact h3,h4⟩⟩
theorem yF.ready {n:Nat}{xs:List α}(h:yF E w t g n xs){i:Nat}(hi:i<n)(x y:Value):∃a b c:Value,w.cell? ⟨g,i*3,none⟩=some a/\w.frozen? ⟨g,i*3,none⟩=false/\(w.setCell ⟨g,i*3,none⟩ x).cell? ⟨g,i*3+1,none⟩=some b/\(w.setCell ⟨g,i*3,none⟩ x).frozen? ⟨g,i*3+1,none⟩=false/\
  ((w.setCell ⟨g,i*3,none⟩ x).setCell ⟨g,i*3+1,none⟩ y).cell? ⟨g,i*3+2,none⟩=some c/\((w.setCell ⟨g,i*3,none⟩ x).setCell ⟨g,i*3+1,none⟩ y).frozen? ⟨g,i*3+2,none⟩=false:=by
 obtain⟨cs,hk,h1,h2⟩:=h.blk;have d:=hk.set_ (i*3) x;have j:=d.set_ (i*3+1) y;have e0:i*3<cs.size:=za;have e1:i*3+1<(cs.setIfInBounds (i*3) x).size:=by simp;omega
 have e2:i*3+2<((cs.setIfInBounds (i*3) x).setIfInBounds (i*3+1) y).size:=by simp;omega
 exact⟨_,_,_,(hk.cell _).trans (QX e0),hk.frozen _,(d.cell _).trans (QX e1),d.frozen _,(j.cell _).trans (QX e2),j.frozen _⟩
theorem gm (h:yd cs)(i:Nat){v:Value}(hv:∀k z,v≠.int k z):yd (cs.setIfInBounds i v):=by
 intro u hu;rw [xV] at hu;rcases XX hu with hu|rfl
 ·exact h u hu
 ·exact hv
theorem kB (g i j k:Nat)(w:World)(x y z:Value):xe g w (((w.setCell ⟨g,i,none⟩ x).setCell ⟨g,j,none⟩ y).setCell ⟨g,k,none⟩ z):=(((xe.refl g w).set_ i x).set_ j y).set_ k z
theorem yF.set_ (hE:sZ E){w:World}{t:TypeId}{g n:Nat}{xs:List α}(h:yF E w t g n xs){i:Nat}(hi:i<n){x:α}{b:Bool}{B:zf}{m d:Nat}{F:zf}{u v:Nat}(hx:E w x b B m d F u v):
  yF E (((w.setCell ⟨g,i*3,none⟩ (.bool b)).setCell ⟨g,i*3+1,none⟩ (.slice B m d)).setCell ⟨g,i*3+2,none⟩ (.slice F u v)) t g n (xs.set i x):=by
 obtain⟨cs,hk,h1,h2⟩:=h.blk;have ho:=zY.of_far (kB g (i*3) (i*3+1) (i*3+2) w (.bool b) (.slice B m d) (.slice F u v));have a:=((hk.set_ (i*3) (.bool b)).set_ (i*3+1) (.slice B m d)).set_ (i*3+2) (.slice F u v);refine⟨by rw [YL];exact h.len,⟨_,a,?_,by simp;exact h2⟩,λj y hj=>?_⟩
 ·exact gm (gm (gm h1 _ (λ_ _ e=>by cases e)) _ (λ_ _ e=>by cases e)) _ (λ_ _ e=>by cases e)
 ·by_cases hij:i=j
  ·subst hij;have hl:=h.len;rw [List.getElem?_set_self za] at hj;injection hj with hj;subst hj;refine⟨b,B,m,d,F,u,v,?_,?_,?_,hE.offg hx hk h1 ho⟩
   ·rw [a.cell,qB za,qB za,QR za]
   ·rw [a.cell,qB za,QR (by simp;omega)]
   ·rw [a.cell,QR (by simp;omega)]
  ·rw [YA hij] at hj;obtain⟨b',B',m',d',F',u',v',c1,c2,c3,c4⟩:=h.num j y hj;refine⟨b',B',m',d',F',u',v',?_,?_,?_,hE.offg c4 hk h1 ho⟩
   ·rw [a.cell,qB za,qB za,qB za,<-hk.cell];exact c1
   ·rw [a.cell,qB za,qB za,qB za,<-hk.cell];exact c2
   ·rw [a.cell,qB za,qB za,qB za,<-hk.cell];exact c3
end
theorem nK (z:Array Value)(n j:Nat)(h:j<n):(madeCells z n)[j]?=some z[j%z.size]!:=by
 unfold madeCells;rw [Array.getElem?_map,QX (by simpa using h)];simp
def rP:Array Value:=#[.bool false,.slice none 0 0,.slice none 0 0]
theorem UB (n:Nat):yd (madeCells rP n):=by
 intro v hv k z e;rw [YD,Array.mem_iff_getElem?] at hv;obtain⟨j,hj⟩:=hv;have a:j<n:=by
  have:=(Array.getElem?_eq_some_iff.1 hj).1;rwa [size_madeCells] at this
 rw [nK _ _ _ a] at hj;have h3:j%3=0\/j%3=1\/j%3=2:=za;rw [show rP.size=3 from rfl] at hj;subst e;rcases h3 with h3|h3|h3<;>rw [h3] at hj<;>simp [rP] at hj
theorem yF.made {α:Type}{E:El α}(w:World)(t:TypeId)(n:Nat)(z0:α)(hz:∀w',E w' z0 false none 0 0 none 0 0):yF E (w.alloc (.cells (madeCells rP (n*3)) t)) t w.heap.size n (List.replicate n z0):=by
 have hk:=zi.new w t (madeCells rP (n*3));refine⟨zD,⟨_,hk,UB _,size_madeCells _ _⟩,λi x hi=>?_⟩;have a:i<n:=by
  have:=(List.getElem?_eq_some_iff.1 hi).1;simpa using this
 obtain rfl:z0=x:=by
  rw [List.getElem?_replicate,if_pos a] at hi;injection hi
 have e0:(i*3)%3=0:=za;have e1:(i*3+1)%3=1:=za;have e2:(i*3+2)%3=2:=za;refine⟨false,none,0,0,none,0,0,?_,?_,?_,hz _⟩
 ·rw [hk.cell,nK _ _ _ za,show rP.size=3 from rfl,e0];rfl
 ·rw [hk.cell,nK _ _ _ za,show rP.size=3 from rfl,e1];rfl
 ·rw [hk.cell,nK _ _ _ za,show rP.size=3 from rfl,e2];rfl
def wD {α:Type}(z0:α)(ys:List α)(n i:Nat):List α:=ys.take i++List.replicate (n - i) z0
theorem pU {α:Type}(z0:α)(ys:List α)(n:Nat):wD z0 ys n 0=List.replicate n z0:=by simp [wD]
theorem pV {α:Type}(z0:α)(ys:List α)(n:Nat)(h:ys.length=n):wD z0 ys n n=ys:=by simp [wD,<-h]
theorem pW {α:Type}(z0:α)(ys:List α)(n i:Nat)(hl:ys.length=n)(hi:i<n)(y:α)(hy:ys[i]?=some y):(wD z0 ys n i).set i y=wD z0 ys n (i+1):=by
 unfold wD;have a:i<ys.length:=za;have e:(ys.take i).length=i:=by rw [QY];omega
 rw [yH _ _ za,e,xW,QJ a,xX];congr 1;obtain⟨m,hm⟩:∃m,n - i=m+1:=⟨n - i - 1,za⟩;have d:n - (i+1)=m:=za;rw [hm,d,List.replicate_succ];have hv:ys[i]=y:=by rw [qZ a] at hy;injection hy
 rw [hv];rfl
theorem ef (w:World):zp w 0 none 0 0:=by
 refine⟨⟨by rw [show dg 18446744073709551616 0=[] from by rw [dg];rfl];rfl,λh=>absurd h zh⟩,qX _,zh⟩
theorem mE (w:World):zu w (0:Rat) false none 0 0 none 0 0:=⟨⟨rfl,ef w⟩,⟨0,⟨rfl,zh⟩,ef w⟩⟩
abbrev zF (w:World)(A:zf)(n c:Nat)(xs:List Rat):Prop:=yf zu w A n c xs
abbrev yk (w:World)(g n:Nat)(xs:List Rat):Prop:=yF zu w 60 g n xs
theorem zF.keep {w':World}{n:Nat}(h:zF w A n c xs)(hb:Below w.heap.size w w'):zF w' A n c xs:=yf.below y6 h hb
theorem yk.keep {w':World}{n:Nat}(h:yk w g n xs)(hb:Below w.heap.size w w'):yk w' g n xs:=yF.below y6 h hb
def mg (w:World)(n:Nat)(xs:List Rat)(e:Ending)(w':World):Prop:=∃g,e=.returned (.slice (some ⟨g,0,none⟩) n n)/\w.heap.size<=g/\yk w' g n xs/\Below w.heap.size w w'
def nQ (w:World)(n:Nat)(xs:List Rat)(e:Ending)(w':World):Prop:=∃g,e=.returned (.tuple #[.slice (some ⟨g,0,none⟩) n n,.bool true])/\w.heap.size<=g/\yk w' g n xs/\Below w.heap.size w w'
def gH (w:World)(e:Ending)(w':World):Prop:=e=.returned (.tuple #[.slice none 0 0,.bool false])/\Below w.heap.size w w'
theorem so (w:World)(n:Nat):yk (w.alloc (.cells (madeCells rP (n*3)) 60)) w.heap.size n (List.replicate n 0):=yF.made w _ n 0 mE
theorem ki:(prog.info? 60).map (λi=>(i.zero,i.size,i.bytes))=some (some (.agg #[.bool false,.slice none 0 0,.slice none 0 0]),3,56):=zm
theorem v8 {k:Nat}(h:w.cell? (ad.add (k+1))=some v):w.cell? ⟨(ad.add k).block,(ad.add k).off+1,none⟩=some v:=by
 rw [<-kL] at h;exact h
theorem rh {k:Nat}(h:w.cell? (ad.add (k+2))=some v):w.cell? ⟨(ad.add k).block,(ad.add k).off+2,none⟩=some v:=by
 rw [<-kL] at h;exact h
theorem oG (n:Nat)(hn:n<=1099511627776):∃Z:Array Value,∀W:World,(Instr.makeSlice 32 (.int .i64 (n:Int)) (.int .i64 (n:Int))).run prog W=.ok (.slice (some ⟨W.heap.size,0,none⟩) n n) (W.alloc (.cells Z 60))/\yk (W.alloc (.cells Z 60)) W.heap.size n (List.replicate n 0):=by
 obtain⟨i0,a,d,g,i⟩:=info_parts ki;refine⟨madeCells rP (n*3),λW=>⟨?_,so W n⟩⟩;have h:=uv (P:=prog) _ _ i0 _ underlying32 a d .i64 .i64 n n (qX _) (by rw [i];omega) za W;rw [g] at h;exact h
theorem zF.get {wr:World}{n:Nat}(h:zF w A n c xs)(hb:Below w.heap.size w wr){i:Nat}(hi:i<n):∃(ad:Addr) (b:Bool) (B:zf) (m d:Nat) (F:zf) (u v:Nat),A=some ad/\ad.block<w.heap.size/\wr.cell? (ad.add (i*3))=some (.bool b)/\wr.cell? ⟨(ad.add (i*3)).block,(ad.add (i*3)).off+1,none⟩=some (.slice B m d)/\wr.cell? ⟨(ad.add (i*3)).block,(ad.add (i*3)).off+2,none⟩=some (.slice F u v)/\zu wr (xs.getD i 0) b B m d F u v:=by
 obtain⟨ad,b,B,m,d,F,u,v,e,h0,h1,h2,h3,h4⟩:=h.at_ hi 0;exact⟨ad,b,B,m,d,F,u,v,e,h0,zq hb h1,zq hb (v8 h2),zq hb (rh h3),h4.below hb⟩
theorem pq {k:Nat}(h:ad.block≠g):(ad.add k).block≠g:=by rw [y9];exact h
theorem pS {W:World}(i j k:Nat)(x y z:Value)(hg:w.heap.size<=g)(h:Below w.heap.size w W):Below w.heap.size w (((W.setCell ⟨g,i,none⟩ x).setCell ⟨g,j,none⟩ y).setCell ⟨g,k,none⟩ z):=zH z hg (zH y hg (zH x hg h))
