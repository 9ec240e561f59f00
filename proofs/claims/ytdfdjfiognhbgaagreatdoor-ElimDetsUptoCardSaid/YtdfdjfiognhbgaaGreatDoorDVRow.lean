/- What this claim leans on. -/
import Derived.Test.YtdfdjfiognhbgaaGreatDoorDBunR
import Derived.Test.YtdfdjfiognhbgaaGreatDoorDBunY
set_option linter.unusedVariables false
set_option linter.unusedSimpArgs false
namespace Go.Proofs.YtdfdjfiognhbgaaGreatDoor
open Go Go.RowKit Go.Proofs.Tryz
set_option maxHeartbeats 16000000
variable {ad:Addr}{cs:Array Value}{xs:List Rat}{c g k n x:Nat}{t:TypeId}{v:Value}{w w':World}{A:ze}
abbrev El (α:Type):=World->α->Bool->ze->Nat->Nat->ze->Nat->Nat->Prop
def ya (g:Nat)(w w':World):Prop:=w.heap.size<=w'.heap.size/\∀p:Addr,p.block<w.heap.size->p.block≠g->w'.cell? p=w.cell? p
theorem ya.of_far (h:z4 g w w'):ya g w w':=⟨by rw [h.1];exact qY _,λp _ hp=>h.2 p hp⟩
theorem ya.of_grown (h:w.grownBy w' (some g)):ya g w w':=
 ⟨h.size,λp hp a=>World.cell?_of_block (h.block p.block hp (λe=>a (by injection e)))⟩
theorem lP (h:w.grownBy w' none):Below w.heap.size w w':=(qZ _ w).grown h (qY _) (λk e=>by cases e)
theorem Wl {k:IntKind}{l:List Nat}(h:zH w w.heap.size 1 A n (zq k l))(hk:zh w g t cs)(a:yf cs)(ho:ya g w w'):zH w' w'.heap.size 1 A n (zq k l):=by
 have c:=Wv h hk a;refine⟨h.1,λhn=>?_⟩;obtain⟨ad,e,hb,hc⟩:=h.2 hn;refine⟨ad,e,qJ hb ho.1,λj v hv=>?_⟩;rw [ho.2 (ad.add j) (by rw [y8];exact hb) (by rw [y8];exact c hn ad e)];exact hc j v hv
theorem X1 (h:zn w x A n c)(hk:zh w g t cs)(a:yf cs)(ho:ya g w w'):zn w' x A n c:=⟨Wl h.1 hk a ho,h.2⟩
theorem Xj (h:zB w x A n c)(hk:zh w g t cs)(a:yf cs)(ho:ya g w w'):zB w' x A n c:=⟨Wl h.1 hk a ho,h.2⟩
structure si {α:Type}(E:El α):Prop where
 below:∀{w w':World} {x:α} {b:Bool} {A:ze} {n c:Nat} {F:ze} {k f:Nat},E w x b A n c F k f->Below w.heap.size w w'->E w' x b A n c F k f
 offg:∀{w w':World} {x:α} {b:Bool} {A:ze} {n c:Nat} {F:ze} {k f g:Nat} {t:TypeId} {cs:Array Value},E w x b A n c F k f->zh w g t cs->yf cs->ya g w w'->E w' x b A n c F k f
theorem zS:si zo where
 below h hb:=h.below hb
 offg h hk hcs ho:=by
  obtain⟨⟨h1,h2⟩,x,e,h3⟩:=h;exact⟨⟨h1,X1 h2 hk hcs ho⟩,x,e,X1 h3 hk hcs ho⟩
section
variable {α:Type}{E:El α}
structure zY (E:El α)(w:World)(A:ze)(n c:Nat)(xs:List α):Prop where
 len:xs.length=n
 fits:n<=c
 most:c<=9223372036854775807
 num:∀i x,xs[i]?=some x->∃(ad:Addr) (b:Bool) (B:ze) (m d:Nat) (F:ze) (u v:Nat),A=some ad/\ad.block<w.heap.size/\w.cell? (ad.add (i*3))=some (.bool b)/\w.cell? (ad.add (i*3+1))=some (.slice B m d)/\w.cell? (ad.add (i*3+2))=some (.slice F u v)/\E w x b B m d F u v
theorem zY.below (hE:si E){w w':World}{A:ze}{n c:Nat}{xs:List α}(h:zY E w A n c xs)(hb:Below w.heap.size w w'):zY E w' A n c xs:=
 ⟨h.len,h.fits,h.most,λi x hi=>by
  obtain⟨ad,b,B,m,d,F,u,v,e,h1,h2,h3,h4,h5⟩:=h.num i x hi;exact⟨ad,b,B,m,d,F,u,v,e,qJ h1 hb.size,zt hb h2,zt hb h3,zt hb h4,hE.below h5 hb⟩⟩
theorem zY.nil (w:World):zY E w none 0 0 []:=⟨rfl,qY _,zg,λi x hi=>by simp at hi⟩
theorem zY.at_ {n:Nat}{xs:List α}(h:zY E w A n c xs){i:Nat}(hi:i<n)(d0:α):∃(ad:Addr) (b:Bool) (B:ze) (m d:Nat) (F:ze) (u v:Nat),A=some ad/\ad.block<w.heap.size/\w.cell? (ad.add (i*3))=some (.bool b)/\w.cell? (ad.add (i*3+1))=some (.slice B m d)/\w.cell? (ad.add (i*3+2))=some (.slice F u v)/\E w (xs.getD i d0) b B m d F u v:=by
 have hl:=h.len;refine h.num i _ ?_;rw [qQ,qX zb];rfl
structure wA (E:El α)(w:World)(t:TypeId)(g n:Nat)(xs:List α):Prop where
 len:xs.length=n
 blk:∃cs:Array Value,zh w g t cs/\yf cs/\cs.size=n*3
 num:∀i x,xs[i]?=some x->∃(b:Bool) (B:ze) (m d:Nat) (F:ze) (u v:Nat),w.cell? ⟨g,i*3,none⟩=some (.bool b)/\w.cell? ⟨g,i*3+1,none⟩=some (.slice B m d)/\w.cell? ⟨g,i*3+2,none⟩=some (.slice F u v)/\E w x b B m d F u v
theorem wA.lt {t:TypeId}{xs:List α}(h:wA E w t g n xs):g<w.heap.size:=by
 obtain⟨cs,hk,_⟩:=h.blk;exact hk.lt
theorem wA.below (hE:si E){w w':World}{t:TypeId}{g n:Nat}{xs:List α}(h:wA E w t g n xs)(hb:Below w.heap.size w w'):wA E w' t g n xs:=by
 refine⟨h.len,?_,λi x hi=>?_⟩
 ·obtain⟨cs,hk,h1,h2⟩:=h.blk;exact⟨cs,zf hb hk,h1,h2⟩
 ·obtain⟨b,B,m,d,F,u,v,h1,h2,h3,h4⟩:=h.num i x hi;exact⟨b,B,m,d,F,u,v,zt hb h1,zt hb h2,zt hb h3,hE.below h4 hb⟩
theorem vz (g k:Nat):(⟨g,0,none⟩:Addr).add k=⟨g,k,none⟩:=by unfold Addr.add;split<;>simp_all
theorem wA.row {xs:List α}(h:wA E w t g n xs)(hn:n<=9223372036854775807):zY E w (some ⟨g,0,none⟩) n n xs:=
 ⟨h.len,qY _,hn,λi x hi=>by
  obtain⟨b,B,m,d,F,u,v,h1,h2,h3,h4⟩:=h.num i x hi;exact⟨_,b,B,m,d,F,u,v,rfl,h.lt,by rw [vz];exact h1,by rw [vz];exact h2,by rw [vz];exact h3,h4⟩⟩
theorem wA.ready {xs:List α}(h:wA E w t g n xs){i:Nat}(hi:i<n)(x y:Value):∃a b c:Value,w.cell? ⟨g,i*3,none⟩=some a/\w.frozen? ⟨g,i*3,none⟩=false/\(w.setCell ⟨g,i*3,none⟩ x).cell? ⟨g,i*3+1,none⟩=some b/\(w.setCell ⟨g,i*3,none⟩ x).frozen? ⟨g,i*3+1,none⟩=false/\
  ((w.setCell ⟨g,i*3,none⟩ x).setCell ⟨g,i*3+1,none⟩ y).cell? ⟨g,i*3+2,none⟩=some c/\((w.setCell ⟨g,i*3,none⟩ x).setCell ⟨g,i*3+1,none⟩ y).frozen? ⟨g,i*3+2,none⟩=false:=by
 obtain⟨cs,hk,h1,h2⟩:=h.blk;have d:=hk.set_ (i*3) x;have j:=d.set_ (i*3+1) y;have e0:i*3<cs.size:=zb;have e1:i*3+1<(cs.setIfInBounds (i*3) x).size:=by simp;omega
 have e2:i*3+2<((cs.setIfInBounds (i*3) x).setIfInBounds (i*3+1) y).size:=by simp;omega
 exact⟨_,_,_,(hk.cell _).trans (QZ e0),hk.frozen _,(d.cell _).trans (QZ e1),d.frozen _,(j.cell _).trans (QZ e2),j.frozen _⟩
theorem Zn (h:yf cs)(i:Nat){v:Value}(hv:∀k z,v≠.int k z):yf (cs.setIfInBounds i v):=by
 intro u hu;rw [xH] at hu;rcases XQ hu with hu|rfl
 ·exact h u hu
 ·exact hv
theorem lJ (g i j k:Nat)(w:World)(x y z:Value):z4 g w (((w.setCell ⟨g,i,none⟩ x).setCell ⟨g,j,none⟩ y).setCell ⟨g,k,none⟩ z):=(((z4.refl g w).set_ i x).set_ j y).set_ k z
theorem wA.set_ (hE:si E){w:World}{t:TypeId}{g n:Nat}{xs:List α}(h:wA E w t g n xs){i:Nat}(hi:i<n){x:α}{b:Bool}{B:ze}{m d:Nat}{F:ze}{u v:Nat}(hx:E w x b B m d F u v):
  wA E (((w.setCell ⟨g,i*3,none⟩ (.bool b)).setCell ⟨g,i*3+1,none⟩ (.slice B m d)).setCell ⟨g,i*3+2,none⟩ (.slice F u v)) t g n (xs.set i x):=by
 obtain⟨cs,hk,h1,h2⟩:=h.blk;have ho:=ya.of_far (lJ g (i*3) (i*3+1) (i*3+2) w (.bool b) (.slice B m d) (.slice F u v));have a:=((hk.set_ (i*3) (.bool b)).set_ (i*3+1) (.slice B m d)).set_ (i*3+2) (.slice F u v);refine⟨by rw [xB];exact h.len,⟨_,a,?_,by simp;exact h2⟩,λj y hj=>?_⟩
 ·exact Zn (Zn (Zn h1 _ (λ_ _ e=>by cases e)) _ (λ_ _ e=>by cases e)) _ (λ_ _ e=>by cases e)
 ·by_cases hij:i=j
  ·subst hij;have hl:=h.len;rw [XR zb] at hj;injection hj with hj;subst hj;refine⟨b,B,m,d,F,u,v,?_,?_,?_,hE.offg hx hk h1 ho⟩
   ·rw [a.cell,qR zb,qR zb,QI zb]
   ·rw [a.cell,qR zb,QI (by simp;omega)]
   ·rw [a.cell,QI (by simp;omega)]
  ·rw [XL hij] at hj;obtain⟨b',B',m',d',F',u',v',c1,c2,c3,c4⟩:=h.num j y hj;refine⟨b',B',m',d',F',u',v',?_,?_,?_,hE.offg c4 hk h1 ho⟩
   ·rw [a.cell,qR zb,qR zb,qR zb,<-hk.cell];exact c1
   ·rw [a.cell,qR zb,qR zb,qR zb,<-hk.cell];exact c2
   ·rw [a.cell,qR zb,qR zb,qR zb,<-hk.cell];exact c3
end
theorem lU (z:Array Value)(n j:Nat)(h:j<n):(madeCells z n)[j]?=some z[j%z.size]!:=by
 unfold madeCells;rw [Array.getElem?_map,QZ (by simpa using h)];simp
def oI:Array Value:=#[.bool false,.slice none 0 0,.slice none 0 0]
theorem Om (n:Nat):yf (madeCells oI n):=by
 intro v hv k z e;rw [yT,Array.mem_iff_getElem?] at hv;obtain⟨j,hj⟩:=hv;have a:j<n:=by
  have:=(Array.getElem?_eq_some_iff.1 hj).1;rwa [size_madeCells] at this
 rw [lU _ _ _ a] at hj;have h3:j%3=0\/j%3=1\/j%3=2:=zb;rw [show oI.size=3 from rfl] at hj;subst e;rcases h3 with h3|h3|h3<;>rw [h3] at hj<;>simp [oI] at hj
theorem wA.made {α:Type}{E:El α}(w:World)(t:TypeId)(n:Nat)(z0:α)(hz:∀w',E w' z0 false none 0 0 none 0 0):wA E (w.alloc (.cells (madeCells oI (n*3)) t)) t w.heap.size n (List.replicate n z0):=by
 have hk:=zh.new w t (madeCells oI (n*3));refine⟨zE,⟨_,hk,Om _,size_madeCells _ _⟩,λi x hi=>?_⟩;have a:i<n:=by
  have:=(List.getElem?_eq_some_iff.1 hi).1;simpa using this
 obtain rfl:z0=x:=by
  rw [List.getElem?_replicate,if_pos a] at hi;injection hi
 have e0:(i*3)%3=0:=zb;have e1:(i*3+1)%3=1:=zb;have e2:(i*3+2)%3=2:=zb;refine⟨false,none,0,0,none,0,0,?_,?_,?_,hz _⟩
 ·rw [hk.cell,lU _ _ _ zb,show oI.size=3 from rfl,e0];rfl
 ·rw [hk.cell,lU _ _ _ zb,show oI.size=3 from rfl,e1];rfl
 ·rw [hk.cell,lU _ _ _ zb,show oI.size=3 from rfl,e2];rfl
def uh {α:Type}(z0:α)(ys:List α)(n i:Nat):List α:=ys.take i++List.replicate (n - i) z0
theorem mR {α:Type}(z0:α)(ys:List α)(n:Nat):uh z0 ys n 0=List.replicate n z0:=by simp [uh]
theorem mS {α:Type}(z0:α)(ys:List α)(n:Nat)(h:ys.length=n):uh z0 ys n n=ys:=by simp [uh,<-h]
theorem mT {α:Type}(z0:α)(ys:List α)(n i:Nat)(hl:ys.length=n)(hi:i<n)(y:α)(hy:ys[i]?=some y):(uh z0 ys n i).set i y=uh z0 ys n (i+1):=by
 unfold uh;have a:i<ys.length:=zb;have e:(ys.take i).length=i:=by rw [qB];omega
 rw [YR _ _ zb,e,yJ,qE a,xJ];congr 1;obtain⟨m,hm⟩:∃m,n - i=m+1:=⟨n - i - 1,zb⟩;have c:n - (i+1)=m:=zb;rw [hm,c,List.replicate_succ];have hv:ys[i]=y:=by rw [qX a] at hy;injection hy
 rw [hv];rfl
theorem Yy (w:World):zn w 0 none 0 0:=by
 refine⟨⟨by rw [show dg 18446744073709551616 0=[] from by rw [dg];rfl];rfl,λh=>absurd h zg⟩,qY _,zg⟩
theorem bC (w:World):zo w (0:Rat) false none 0 0 none 0 0:=⟨⟨rfl,Yy w⟩,⟨0,⟨rfl,zg⟩,Yy w⟩⟩
abbrev zU (w:World)(A:ze)(n c:Nat)(xs:List Rat):Prop:=zY zo w A n c xs
abbrev vP (w:World)(g n:Nat)(xs:List Rat):Prop:=wA zo w 41 g n xs
theorem zU.keep {w':World}(h:zU w A n c xs)(hb:Below w.heap.size w w'):zU w' A n c xs:=zY.below zS h hb
theorem vP.keep {w':World}(h:vP w g n xs)(hb:Below w.heap.size w w'):vP w' g n xs:=wA.below zS h hb
def ku (w:World)(n:Nat)(xs:List Rat)(e:Ending)(w':World):Prop:=∃g,e=.returned (.slice (some ⟨g,0,none⟩) n n)/\w.heap.size<=g/\vP w' g n xs/\Below w.heap.size w w'
def m0 (w:World)(n:Nat)(xs:List Rat)(e:Ending)(w':World):Prop:=∃g,e=.returned (.tuple #[.slice (some ⟨g,0,none⟩) n n,.bool true])/\w.heap.size<=g/\vP w' g n xs/\Below w.heap.size w w'
theorem qn (w:World)(n:Nat):vP (w.alloc (.cells (madeCells oI (n*3)) 41)) w.heap.size n (List.replicate n 0):=wA.made w _ n 0 bC
theorem ZL:(prog.info? 41).map (λi=>(i.zero,i.size,i.bytes))=some (some (.agg #[.bool false,.slice none 0 0,.slice none 0 0]),3,56):=zP
theorem fE (h:w.cell? (ad.add (k+1))=some v):w.cell? ⟨(ad.add k).block,(ad.add k).off+1,none⟩=some v:=by
 rw [<-gU] at h;exact h
theorem Uz (h:w.cell? (ad.add (k+2))=some v):w.cell? ⟨(ad.add k).block,(ad.add k).off+2,none⟩=some v:=by
 rw [<-gU] at h;exact h
theorem iH (n:Nat)(hn:n<=1099511627776):∃Z:Array Value,∀W:World,(Instr.makeSlice 64 (.int .i64 (n:Int)) (.int .i64 (n:Int))).run prog W=.ok (.slice (some ⟨W.heap.size,0,none⟩) n n) (W.alloc (.cells Z 41))/\vP (W.alloc (.cells Z 41)) W.heap.size n (List.replicate n 0):=by
 obtain⟨i0,a,c,d,g⟩:=info_parts ZL;refine⟨madeCells oI (n*3),λW=>⟨?_,qn W n⟩⟩;have h:=tH (P:=prog) _ _ i0 _ underlying64 a c .i64 .i64 n n (qY _) (by rw [g];omega) zb W;rw [d] at h;exact h
theorem zU.get {wr:World}(h:zU w A n c xs)(hb:Below w.heap.size w wr){i:Nat}(hi:i<n):∃(ad:Addr) (b:Bool) (B:ze) (m d:Nat) (F:ze) (u v:Nat),A=some ad/\ad.block<w.heap.size/\wr.cell? (ad.add (i*3))=some (.bool b)/\wr.cell? ⟨(ad.add (i*3)).block,(ad.add (i*3)).off+1,none⟩=some (.slice B m d)/\wr.cell? ⟨(ad.add (i*3)).block,(ad.add (i*3)).off+2,none⟩=some (.slice F u v)/\zo wr (xs.getD i 0) b B m d F u v:=by
 obtain⟨ad,b,B,m,d,F,u,v,e,h0,h1,h2,h3,h4⟩:=h.at_ hi 0;exact⟨ad,b,B,m,d,F,u,v,e,h0,zt hb h1,zt hb (fE h2),zt hb (Uz h3),h4.below hb⟩
theorem eZ {k:Nat}(h:ad.block≠g):(ad.add k).block≠g:=by rw [y8];exact h
theorem lV {W:World}(i j k:Nat)(x y z:Value)(hg:w.heap.size<=g)(h:Below w.heap.size w W):Below w.heap.size w (((W.setCell ⟨g,i,none⟩ x).setCell ⟨g,j,none⟩ y).setCell ⟨g,k,none⟩ z):=zz z hg (zz y hg (zz x hg h))
set_option maxRecDepth 100000
theorem RS (f:Rat->Rat->Rat)(F:FuncId)(cap:Array Value)(xs ys:List Rat)(A B:ze)(n c d:Nat)(w:World)(ha:zU w A n c xs)(hb:zU w B n d ys)(hn:n<=1073741824)
  (hEn:∀(args:Array Value) (w':World),Sem.run prog (callFunc F args) w'=.ok (.enter F args) w')
  (hF : ∀ i,i < n → ∀ w',Below w.heap.size w w' → ∀ (b b' : Bool) (A A' : ze) (n n' c c' : Nat) (E E' : ze) (k k' f9 H : Nat),zo w' (xs.getD i 0) b A n c E k f9 → zo w' (ys.getD i 0) b' A' n' c' E' k' H →
    Calls prog F (#[.agg #[.bool b,.slice A n c,.slice E k f9],.agg #[.bool b',.slice A' n' c',.slice E' k' H]]++cap) w' (xe w' (f (xs.getD i 0) (ys.getD i 0)))):
  Calls prog 171 #[.slice A n c,.slice B n d,.func (.func F) #[] cap] w (m0 w n (List.zipWith f xs ys)):=by
 have N:=ha.len;have O:=hb.len;have v:(List.zipWith f xs ys).length=n:=UO N O;unfold m0;have t:∀i,i<n->(List.zipWith f xs ys)[i]?=some (f (xs.getD i 0) (ys.getD i 0)):=λi hi=>by
  rw [List.getElem?_zipWith,qQ,qQ,qX zb,qX zb];rfl
 obtain⟨zs,R⟩:∃zs,List.zipWith f xs ys=zs:=⟨_,rfl⟩;rw [R] at t v⊢;have HG:=za t;have G:=za v;have HF:=za hF;have HA:=za ha;have T:=za hb;obtain⟨Z,hZ⟩:=iH n zb;have ab:=λW=>(hZ W).1;have o:=za (λW=>(hZ W).2);clear hF ha hb N O v R t hZ;have hd0:((n:Int) !=(n:Int))=false:=zE;have i0:(0:Int)<=(n:Int):=zb;go_enter func171,ntmps171;go_wp2_with fail;clear ab;have a:=o.o w;have hB:Below w.heap.size w (w.alloc (.cells Z 41)):=(qZ _ w).alloc (qY _) _;obtain⟨gp,u⟩:∃g,w.heap.size=g:=⟨_,rfl⟩;have Q:w.heap.size<=gp:=zb;have hz:gp+1<=(w.alloc (.cells Z 41)).heap.size:=by simp [u]
 rw [u] at a⊢;rw [<-mR 0 zs n] at a;generalize w.alloc (.cells Z 41)=W1 at*;clear u o
 go_loopg [21] (n+1) (λg ix wr=>∃(k:Nat),k<=n/\n<g+k/\ix=.int .i64 k/\vP wr gp n (uh 0 zs n k)/\Below w.heap.size w wr)
 case atStart=>exact⟨0,qN _,zb,rfl,a,hB⟩
 case round=>
  clear a hB hz;obtain⟨k,hkn,hg,rfl,a,hB⟩:=hrel;by_cases hlt:k<n
  ·obtain⟨ad,b1,B1,m1,d1,E1,u1,v1,rfl,-,V,X,Y,hx⟩:=HA.o.get hB hlt;obtain⟨ae,b2,B2,m2,d2,E2,u2,v2,rfl,hae,J,L,M,hy⟩:=T.o.get hB hlt;have aa:decide ((k:Int)<(n:Int))=true:=by simp;omega
   have i1:(0:Int)<=(k:Int):=zb;have i2:(k:Int)<(n:Int):=zb;have hgr:=a.lt;obtain⟨st,d3,d4⟩:=zw wr 41 #[.bool b1,.slice B1 m1 d1,.slice E1 u1 v1];have D:=za d3;have HX:=za (hx.below st);have HY:=za (hy.below st);have s:=za (a.keep st);have m:=za (zc hB st);have HE:=za (And.intro (zt st J) (And.intro (zt st L) (zt st M)));clear hx hy a hB st d3 d4 J L M;go_wp2_with fail;clear V X Y;generalize wr.alloc (.cells #[.bool b1,.slice B1 m1 d1,.slice E1 u1 v1] 41)=W2 at*;generalize wr.heap.size=gb at*;obtain⟨p0,p1,p2⟩:=D.o.c3;obtain⟨e0,e1,e2⟩:=HE.o;have j:=(qZ W2.heap.size W2).drew;have y:=eZ (k:=k*3) (show ae.block≠gp by omega);refine rg (zl p0 (zl p1 (zl p2 (zl e0 (zl e1 (zl e2 zJ)))))) (λhHeld=>?_);refine tk 0 ?_;refine tk 1 ?_;refine tk 2 ?_;refine tk 3 ?_;refine tk 4 ?_;refine tk 5 ?_;refine tk 6 ?_;refine tk 7 ?_;refine rc 8 (λK hK=>?_);go_simp;refine(HF.o k hlt _ (zc m.o j) _ _ _ _ _ _ _ _ _ _ _ _ _ _ (HX.o.below j) (HY.o.below j)).mono ?_;rintro e w3 ⟨b3,A3,n3,c3,E3,k3,f3,rfl,P,hb⟩;have j:=zc j hb;refine hK.out _ _ (Cs.below hHeld hb) (λhHeld=>?_);clear hK K hb;refine tk 9 ?_;have z:=s.o.keep j;obtain⟨q0,q1,q2,ac,ah,af,ai,ag,aj⟩:=z.ready hlt (.bool b3) (.slice A3 n3 c3);refine rc 10 (λK hK=>?_);go_simp;have C:=wA.set_ zS z hlt P;rw [mT 0 zs n k G.o hlt _ (HG.o k hlt)] at C;have I:=lV (k*3) (k*3+1) (k*3+2) (.bool b3) (.slice A3 n3 c3) (.slice E3 k3 f3) Q (zc m.o j);refine hK.out _ _ (Cs.far hHeld (lJ _ _ _ _ _ _ _ _) (by refine⟨?_,?_,?_,y,y,y,trivial⟩<;>(show gb≠gp;omega))) (λhHeld=>?_);clear hK K;refine zT ?_;have U:=za C;have S:=za I;clear C I z hHeld j P ac ah af ai ag aj p0 p1 p2 e0 e1 e2 D HX HY s m HE;go_wp2;go_roundg (n - k)
   case measure=>omega
   case rel=>exact⟨k+1,zb,zb,by go_num,U.o,S.o⟩
  ·have hk:k=n:=zb;subst hk;have aa:decide ((k:Int)<(k:Int))=false:=zE;have HR:=za (mS 0 zs k G.o▸a);have m:=za hB;clear a hB;go_wp2
   go_ret2
   exact⟨gp,rfl,Q,HR.o,m.o⟩
theorem Pr (x mm:Nat)(A:ze)(n c:Nat)(w:World)(hA:zB w x A n c)(hn:n<=274877906944)(O:0<mm)(hm1:mm<=32768):
  Calls prog 184 #[.slice A n c,.int .i64 mm] w (Wa w x mm):=by
 obtain⟨i0,N,Q,R,S⟩:=info_parts ls;have I:=za hA.len;have hR:=hA.1;clear hA;obtain⟨Z,hZ⟩:∃Z,madeCells (Value.cells (.int .i64 0)) (n*i0.size)=Z:=⟨_,rfl⟩;have HZ:zd (Z.size=n):=by show _=_;rw [<-hZ,size_madeCells,R,xC]
 have P:∀W:World,(Instr.makeSlice 44 (.int .i64 (n:Int)) (.int .i64 (n:Int))).run prog W=.ok (.slice (some ⟨W.heap.size,0,none⟩) n n) (W.alloc (.cells Z 3)):=λW=>by
  rw [<-hZ];exact tH _ _ i0 _ underlying44 N Q _ _ n n (qY _) (by rw [S];omega) zb W
 clear hZ;go_enter func184,ntmps184;go_wp2;clear P
 go_loopg [7,8,9] (n + 1) (fun g s i _ wr => ∃ (k d : Nat) (cs : Array Value) (out : List Nat),k ≤ n ∧ k < g ∧ i = .int .i64 ((k : Int) - 1) ∧ s = .int .i64 d ∧ lj x mm n k out d ∧
   zh wr w.heap.size 3 cs/\cs.size=n/\cs.toList.drop k=zq .i64 out/\Below w.heap.size w wr)
 case atStart=>exact⟨n,0,Z,[],qY _,zb,rfl,rfl,lj.start O (by have:=I.o;omega),zh.new w _ _,HZ.o,by rw [xG (by have:=HZ.o;simp;omega)];rfl,(qZ _ _).alloc (qY _) _⟩
 case round=>
  obtain⟨k,d,cs,out,hk,hg,rfl,rfl,m,hB,hsz,o,t⟩:=hrel;by_cases hk0:k=0
  ·subst hk0;obtain⟨f1,f2⟩:=m.done;have F:out.length=n:=by have:=m.len;omega
   have G:zH wr wr.heap.size 1 (some ⟨w.heap.size,0,none⟩) n (zq .i64 out):=by
    refine⟨by rw [wt];omega,λ_=>⟨_,rfl,hB.lt,λj u hu=>?_⟩⟩;have e:(⟨w.heap.size,0,none⟩:Addr).add j=⟨w.heap.size,j,none⟩:=by unfold Addr.add;split<;>simp_all
    rw [e,hB.cell j,<-QM];rw [List.drop_zero] at o;rw [o];exact hu
   have T:=aC (some ⟨w.heap.size,0,none⟩) n n out wr G m.dgs (qY _) zb zb;rw [f1] at T;have HT:=za T;have F2:=za f2;clear T G f1 f2 m o hsz F;go_wp2_with fail;refine HT.o.mono ?_;intro e w2 y;have E:=y.from_ t;obtain⟨A2,n2,c2,rfl,M,L⟩:=y.elim;have H:=za E;clear y M L E;go_wp2_with fail
   go_ret2
   exact⟨_,by rw [<-F2.o];rfl,H.o⟩
  ·obtain⟨j,rfl⟩:∃j,k=j+1:=⟨k - 1,zb⟩;obtain⟨ad,rfl,B,C⟩:=wB hR (k:=j) zb;have D:wr.cell? (ad.add j)=some (.int .i64 ((dg 65536 x).getD j 0:Nat)):=(t.cell (by rw [y8];exact B)).trans C;rw [oj] at D;have K:x / 65536^j%65536<65536:=QH _ zg;have z:=m.step hk rfl;have hleft:=m.rest;obtain⟨a,ha⟩:∃b,x / 65536^j%65536=b:=⟨_,rfl⟩;rw [ha] at D K z;have hfr:=hB.frozen j;have v:∃u,wr.cell? ⟨w.heap.size,j,none⟩=some u:=by
    rw [hB.cell j];exact⟨cs[j]' zb,QZ zb⟩
   obtain⟨u,hu⟩:=v;have J:=za z;have HS:=za hsz;have HD:=za o;clear z ha m C hsz o;go_wp2;go_roundg (j+1)
   case measure=>omega
   case rel=>exact⟨j,(d*65536+a)%mm,cs.setIfInBounds j (.int .i64 (((d:Int)*65536+(a:Int)) / (mm:Int))),_,zb,zb,by go_num,by go_num,J.o,hB.set_ _ _,by simpa using HS.o,by rw [drop_set _ _ _ (by have:=HS.o;omega),HD.o];simp [zq],t.setCell (qY _) _⟩
def uY (b x y:Nat)(D:List Nat):Prop:=D++dg b y=dg b x
theorem uY.step {b y:Nat}{D:List Nat}(h:uY b x y D)(hb:2<=b)(hy:y≠0):uY b x (y / b) (D++[y%b]):=by
 unfold uY at h⊢;rw [<-h,kf hb hy,xJ];rfl
