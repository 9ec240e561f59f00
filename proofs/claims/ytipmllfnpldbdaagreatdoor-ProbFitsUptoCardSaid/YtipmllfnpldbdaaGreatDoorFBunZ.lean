/- What this claim leans on. -/
import Derived.Test.YtipmllfnpldbdaaGreatDoorFMeet4
import Derived.Laws.AppendOwn
set_option linter.unusedVariables false
set_option linter.unusedSimpArgs false
namespace Go.Proofs.YtipmllfnpldbdaaGreatDoor
open Go Go.RowKit Go.Proofs.Tryz
open Go.ChangeShapes Go.WideShapes Go.ChangeAt
set_option maxHeartbeats 16000000
namespace UA
set_option maxHeartbeats 16000000
theorem nf {H:Type}(d:DataW H):1<=Rows.uptoBulk d:=by
 cases d with
 |lit l=>cases l<;>simp [Rows.uptoBulk]
 |nil=>simp [Rows.uptoBulk]
 |ptr d=>simp [Rows.uptoBulk]
 |slice elems spare=>simp [Rows.uptoBulk]
 |agg parts=>simp [Rows.uptoBulk]
 |iface t d=>simp [Rows.uptoBulk]
 |map entries=>simp [Rows.uptoBulk]
 |held h=>simp [Rows.uptoBulk]
theorem eO {H:Type}(l:List (DataW H)):l.length<=Rows.uptoBulkAll l:=by
 induction l with
 |nil=>simp [Rows.uptoBulkAll]
 |cons x r ih=>have:=nf x;simp only [Rows.uptoBulkAll,xX];omega
theorem slice_le {H:Type}(a d:List (DataW H)):a.length+d.length+1<=Rows.uptoBulk (.slice a d):=by
 have h1:=eO a;have h2:=eO d;simp only [Rows.uptoBulk];omega
end UA
open Go Go.RowKit Go.Proofs.Tryz
open Go.ChangeShapes Go.WideShapes Go.ChangeAt Go.Deep
set_option maxHeartbeats 16000000
open Go Go.RowKit Go.Proofs.Tryz
open Go.ChangeShapes Go.WideShapes Go.ChangeAt Go.Deep
set_option maxHeartbeats 16000000
open Go Go.RowKit Go.Proofs.Tryz
set_option maxHeartbeats 16000000
variable {ad:Addr}{cs:Array Value}{xs:List Rat}{c g k n x y:Nat}{t:TypeId}{v:Value}{w w':World}{A:zf}
def zu (w:World):Prop:=∀j,j<Lib.deBruijn64tab.length->w.cell? ⟨1,j,none⟩=some (.int .u8 (Lib.deBruijn64tab.getD j 0:Nat))
theorem zu.below {B:Nat}(h:zu w)(hb:Below B w w')(hB:1<B):zu w':=λj hj=>(hb.cell (p:=⟨1,j,none⟩) hB).trans (h j hj)
theorem zu.drewN (h:zu w)(n:Nat):zu (w.drewN n):=h
theorem zu.on (h:zu w)(hb:Below w.heap.size w w'):zu w':=h.below hb (by
 have:=h 0 zh;exact QT w _ this)
open Go Go.RowKit Go.Proofs.Tryz
set_option maxHeartbeats 16000000
theorem nk (x a:Nat)(hx:x<18446744073709551616)(hx0:x≠0)(d:x&&&(18446744073709551616 - x)=a):
  IntKind.u64.wrap (bits BinOp.and IntKind.u64 (x:Int) (IntKind.u64.wrap (-(x:Int)))*285870213051353865) / 288230376151711744=((a*285870213051353865%18446744073709551616 / 288230376151711744:Nat):Int):=by
 have e1:IntKind.u64.wrap (-(x:Int))=((18446744073709551616 - x:Nat):Int):=by rw [QH];omega
 rw [e1,bits_and_u64_nat x _ hx za,d,QH];omega
theorem ZH (x k a:Nat)(w:World)(hx0:((x:Int)==0)=false)
  (d:IntKind.u64.wrap (bits BinOp.and IntKind.u64 (x:Int) (IntKind.u64.wrap (-(x:Int)))*285870213051353865) / 288230376151711744=(a:Int))
  (hi:a<64) (hk:k<64) (hcell:w.cell? ⟨1,a,none⟩=some (.int .u8 k)):
  Calls prog 148 #[.int .u64 x] w λe w'=>e=.returned (.int .i64 k)/\w=w':=by
 go_enter func148,ntmps148;go_wp2_with (simp only [d]);go_ret;exact⟨rfl,rfl⟩
theorem ZI (w:World):
  Calls prog 148 #[.int .u64 0] w λe w'=>e=.returned (.int .i64 64)/\w=w':=by
 go_enter func148,ntmps148;go_wp2;go_ret;exact⟨rfl,rfl⟩
theorem cY (x:Int)(hx:Wd x)(w:World)(hT:zu w):
  Calls prog 148 #[.int .u64 x] w λe w'=>e=.returned (.int .i64 (nX x))/\w=w':=by
 obtain⟨h0,h1⟩:=hx;obtain⟨x,rfl⟩:=QI h0;have hN:x<18446744073709551616:=za;unfold nX;rw [Int.toNat_natCast];by_cases hx0:x=0
 ·subst hx0;exact ZI w
 ·obtain⟨d,hk⟩:=Lib.lowest_bit 64 x hx0 hN;obtain⟨hi,g⟩:=Lib.deBruijn64_at _ hk;have a:=hT _ hi;rw [g] at a;exact ZH x _ _ w (by simp;omega) (nk x _ hN hx0 d) hi hk a
open Go Go.RowKit Go.Proofs.Tryz
set_option maxHeartbeats 16000000
theorem Xt (x:Int)(hx:Wd x)(w:World)(hT:zu w):
  Calls prog 139 #[.int .u64 x] w λe w'=>e=.returned (.int .i64 (nX x))/\w=w':=by
 have H:=zd (cY x hx w hT);clear hT;go_enter func139,ntmps139;go_wp2_with (go_at_call 148;refine H.o.mono ?_;rintro e w' ⟨rfl,rfl⟩);go_ret;exact⟨rfl,rfl⟩
open Go Go.RowKit Go.Proofs.Tryz
set_option maxHeartbeats 16000000
abbrev El (α:Type):=World->α->Bool->zf->Nat->Nat->zf->Nat->Nat->Prop
def zZ (g:Nat)(w w':World):Prop:=w.heap.size<=w'.heap.size/\∀p:Addr,p.block<w.heap.size->p.block≠g->w'.cell? p=w.cell? p
theorem zZ.of_far (h:xe g w w'):zZ g w w':=⟨by rw [h.1];exact qX _,λp _ hp=>h.2 p hp⟩
theorem zZ.of_grown (h:w.grownBy w' (some g)):zZ g w w':=
 ⟨h.size,λp hp a=>World.cell?_of_block (h.block p.block hp (λe=>a (by injection e)))⟩
theorem mi (h:w.grownBy w' none):Below w.heap.size w w':=(qY _ w).grown h (qX _) (λk e=>by cases e)
theorem fJ {k:IntKind}{l:List Nat}(h:zE w w.heap.size 1 A n (zv k l))(hk:zi w g t cs)(a:ye cs)(ho:zZ g w w'):zE w' w'.heap.size 1 A n (zv k l):=by
 have d:=eU h hk a;refine⟨h.1,λhn=>?_⟩;obtain⟨ad,e,hb,hc⟩:=h.2 hn;refine⟨ad,e,qJ hb ho.1,λj v hv=>?_⟩;rw [ho.2 (ad.add j) (by rw [y9];exact hb) (by rw [y9];exact d hn ad e)];exact hc j v hv
theorem fO (h:zo w x A n c)(hk:zi w g t cs)(a:ye cs)(ho:zZ g w w'):zo w' x A n c:=⟨fJ h.1 hk a ho,h.2⟩
theorem fV (h:rv w x A n c)(hk:zi w g t cs)(a:ye cs)(ho:zZ g w w'):rv w' x A n c:=⟨fJ h.1 hk a ho,h.2⟩
structure sP {α:Type}(E:El α):Prop where
 below:∀{w w':World} {x:α} {b:Bool} {A:zf} {n c:Nat} {F:zf} {k f:Nat},E w x b A n c F k f->Below w.heap.size w w'->E w' x b A n c F k f
 offg:∀{w w':World} {x:α} {b:Bool} {A:zf} {n c:Nat} {F:zf} {k f g:Nat} {t:TypeId} {cs:Array Value},E w x b A n c F k f->zi w g t cs->ye cs->zZ g w w'->E w' x b A n c F k f
theorem yx:sP zt where
 below h hb:=h.below hb
 offg h hk hcs ho:=by
  obtain⟨⟨h1,h2⟩,x,e,h3⟩:=h;exact⟨⟨h1,fO h2 hk hcs ho⟩,x,e,fO h3 hk hcs ho⟩
section
variable {α:Type}{E:El α}
structure yh (E:El α)(w:World)(A:zf)(n c:Nat)(xs:List α):Prop where
 len:xs.length=n
 fits:n<=c
 most:c<=9223372036854775807
 num:∀i x,xs[i]?=some x->∃(ad:Addr) (b:Bool) (B:zf) (m d:Nat) (F:zf) (u v:Nat),A=some ad/\ad.block<w.heap.size/\w.cell? (ad.add (i*3))=some (.bool b)/\w.cell? (ad.add (i*3+1))=some (.slice B m d)/\w.cell? (ad.add (i*3+2))=some (.slice F u v)/\E w x b B m d F u v
theorem yh.below (hE:sP E){w w':World}{A:zf}{n c:Nat}{xs:List α}(h:yh E w A n c xs)(hb:Below w.heap.size w w'):yh E w' A n c xs:=
 ⟨h.len,h.fits,h.most,λi x hi=>by
  obtain⟨ad,b,B,m,d,F,u,v,e,h1,h2,h3,h4,h5⟩:=h.num i x hi;exact⟨ad,b,B,m,d,F,u,v,e,qJ h1 hb.size,zq hb h2,zq hb h3,zq hb h4,hE.below h5 hb⟩⟩
theorem yh.nil (w:World):yh E w none 0 0 []:=⟨rfl,qX _,zh,λi x hi=>by simp at hi⟩
theorem yh.at_ {xs:List α}(h:yh E w A n c xs){i:Nat}(hi:i<n)(d0:α):∃(ad:Addr) (b:Bool) (B:zf) (m d:Nat) (F:zf) (u v:Nat),A=some ad/\ad.block<w.heap.size/\w.cell? (ad.add (i*3))=some (.bool b)/\w.cell? (ad.add (i*3+1))=some (.slice B m d)/\w.cell? (ad.add (i*3+2))=some (.slice F u v)/\E w (xs.getD i d0) b B m d F u v:=by
 have hl:=h.len;refine h.num i _ ?_;rw [qQ,qZ za];rfl
structure y6 (E:El α)(w:World)(t:TypeId)(g n:Nat)(xs:List α):Prop where
 len:xs.length=n
 blk:∃cs:Array Value,zi w g t cs/\ye cs/\cs.size=n*3
 num:∀i x,xs[i]?=some x->∃(b:Bool) (B:zf) (m d:Nat) (F:zf) (u v:Nat),w.cell? ⟨g,i*3,none⟩=some (.bool b)/\w.cell? ⟨g,i*3+1,none⟩=some (.slice B m d)/\w.cell? ⟨g,i*3+2,none⟩=some (.slice F u v)/\E w x b B m d F u v
theorem y6.lt {t:TypeId}{xs:List α}(h:y6 E w t g n xs):g<w.heap.size:=by
 obtain⟨cs,hk,_⟩:=h.blk;exact hk.lt
theorem y6.below (hE:sP E){w w':World}{t:TypeId}{g n:Nat}{xs:List α}(h:y6 E w t g n xs)(hb:Below w.heap.size w w'):y6 E w' t g n xs:=by
 refine⟨h.len,?_,λi x hi=>?_⟩
 ·obtain⟨cs,hk,h1,h2⟩:=h.blk;exact⟨cs,zj hb hk,h1,h2⟩
 ·obtain⟨b,B,m,d,F,u,v,h1,h2,h3,h4⟩:=h.num i x hi;exact⟨b,B,m,d,F,u,v,zq hb h1,zq hb h2,zq hb h3,hE.below h4 hb⟩
theorem xh (g k:Nat):(⟨g,0,none⟩:Addr).add k=⟨g,k,none⟩:=by unfold Addr.add;split<;>simp_all
theorem y6.row {xs:List α}(h:y6 E w t g n xs)(hn:n<=9223372036854775807):yh E w (some ⟨g,0,none⟩) n n xs:=
 ⟨h.len,qX _,hn,λi x hi=>by
  obtain⟨b,B,m,d,F,u,v,h1,h2,h3,h4⟩:=h.num i x hi;exact⟨_,b,B,m,d,F,u,v,rfl,h.lt,by rw [xh];exact h1,by rw [xh];exact h2,by rw [xh];exact h3,h4⟩⟩
theorem y6.ready {xs:List α}(h:y6 E w t g n xs){i:Nat}(hi:i<n)(x y:Value):∃a b c:Value,w.cell? ⟨g,i*3,none⟩=some a/\w.frozen? ⟨g,i*3,none⟩=false/\(w.setCell ⟨g,i*3,none⟩ x).cell? ⟨g,i*3+1,none⟩=some b/\(w.setCell ⟨g,i*3,none⟩ x).frozen? ⟨g,i*3+1,none⟩=false/\
  ((w.setCell ⟨g,i*3,none⟩ x).setCell ⟨g,i*3+1,none⟩ y).cell? ⟨g,i*3+2,none⟩=some c/\((w.setCell ⟨g,i*3,none⟩ x).setCell ⟨g,i*3+1,none⟩ y).frozen? ⟨g,i*3+2,none⟩=false:=by
 obtain⟨cs,hk,h1,h2⟩:=h.blk;have d:=hk.set_ (i*3) x;have j:=d.set_ (i*3+1) y;have e0:i*3<cs.size:=za;have e1:i*3+1<(cs.setIfInBounds (i*3) x).size:=by simp;omega
 have e2:i*3+2<((cs.setIfInBounds (i*3) x).setIfInBounds (i*3+1) y).size:=by simp;omega
 exact⟨_,_,_,(hk.cell _).trans (QQ e0),hk.frozen _,(d.cell _).trans (QQ e1),d.frozen _,(j.cell _).trans (QQ e2),j.frozen _⟩
theorem iH (h:ye cs)(i:Nat){v:Value}(hv:∀k z,v≠.int k z):ye (cs.setIfInBounds i v):=by
 intro u hu;rw [xV] at hu;rcases XQ hu with hu|rfl
 ·exact h u hu
 ·exact hv
theorem kj (g i j k:Nat)(w:World)(x y z:Value):xe g w (((w.setCell ⟨g,i,none⟩ x).setCell ⟨g,j,none⟩ y).setCell ⟨g,k,none⟩ z):=(((xe.refl g w).set_ i x).set_ j y).set_ k z
theorem y6.set_ (hE:sP E){w:World}{t:TypeId}{g n:Nat}{xs:List α}(h:y6 E w t g n xs){i:Nat}(hi:i<n){x:α}{b:Bool}{B:zf}{m d:Nat}{F:zf}{u v:Nat}(hx:E w x b B m d F u v):
  y6 E (((w.setCell ⟨g,i*3,none⟩ (.bool b)).setCell ⟨g,i*3+1,none⟩ (.slice B m d)).setCell ⟨g,i*3+2,none⟩ (.slice F u v)) t g n (xs.set i x):=by
 obtain⟨cs,hk,h1,h2⟩:=h.blk;have ho:=zZ.of_far (kj g (i*3) (i*3+1) (i*3+2) w (.bool b) (.slice B m d) (.slice F u v));have a:=((hk.set_ (i*3) (.bool b)).set_ (i*3+1) (.slice B m d)).set_ (i*3+2) (.slice F u v);refine⟨by rw [YH];exact h.len,⟨_,a,?_,by simp;exact h2⟩,λj y hj=>?_⟩
 ·exact iH (iH (iH h1 _ (λ_ _ e=>by cases e)) _ (λ_ _ e=>by cases e)) _ (λ_ _ e=>by cases e)
 ·by_cases hij:i=j
  ·subst hij;have hl:=h.len;rw [List.getElem?_set_self za] at hj;injection hj with hj;subst hj;refine⟨b,B,m,d,F,u,v,?_,?_,?_,hE.offg hx hk h1 ho⟩
   ·rw [a.cell,qC za,qC za,QO za]
   ·rw [a.cell,qC za,QO (by simp;omega)]
   ·rw [a.cell,QO (by simp;omega)]
  ·rw [YR hij] at hj;obtain⟨b',B',m',d',F',u',v',c1,c2,c3,c4⟩:=h.num j y hj;refine⟨b',B',m',d',F',u',v',?_,?_,?_,hE.offg c4 hk h1 ho⟩
   ·rw [a.cell,qC za,qC za,qC za,<-hk.cell];exact c1
   ·rw [a.cell,qC za,qC za,qC za,<-hk.cell];exact c2
   ·rw [a.cell,qC za,qC za,qC za,<-hk.cell];exact c3
end
theorem nv (z:Array Value)(n j:Nat)(h:j<n):(madeCells z n)[j]?=some z[j%z.size]!:=by
 unfold madeCells;rw [Array.getElem?_map,QQ (by simpa using h)];simp
def rG:Array Value:=#[.bool false,.slice none 0 0,.slice none 0 0]
theorem Vq (n:Nat):ye (madeCells rG n):=by
 intro v hv k z e;rw [YG,Array.mem_iff_getElem?] at hv;obtain⟨j,hj⟩:=hv;have a:j<n:=by
  have:=(Array.getElem?_eq_some_iff.1 hj).1;rwa [size_madeCells] at this
 rw [nv _ _ _ a] at hj;have h3:j%3=0\/j%3=1\/j%3=2:=za;rw [show rG.size=3 from rfl] at hj;subst e;rcases h3 with h3|h3|h3<;>rw [h3] at hj<;>simp [rG] at hj
theorem y6.made {α:Type}{E:El α}(w:World)(t:TypeId)(n:Nat)(z0:α)(hz:∀w',E w' z0 false none 0 0 none 0 0):y6 E (w.alloc (.cells (madeCells rG (n*3)) t)) t w.heap.size n (List.replicate n z0):=by
 have hk:=zi.new w t (madeCells rG (n*3));refine⟨zD,⟨_,hk,Vq _,size_madeCells _ _⟩,λi x hi=>?_⟩;have a:i<n:=by
  have:=(List.getElem?_eq_some_iff.1 hi).1;simpa using this
 obtain rfl:z0=x:=by
  rw [List.getElem?_replicate,if_pos a] at hi;injection hi
 have e0:(i*3)%3=0:=za;have e1:(i*3+1)%3=1:=za;have e2:(i*3+2)%3=2:=za;refine⟨false,none,0,0,none,0,0,?_,?_,?_,hz _⟩
 ·rw [hk.cell,nv _ _ _ za,show rG.size=3 from rfl,e0];rfl
 ·rw [hk.cell,nv _ _ _ za,show rG.size=3 from rfl,e1];rfl
 ·rw [hk.cell,nv _ _ _ za,show rG.size=3 from rfl,e2];rfl
def wF {α:Type}(z0:α)(ys:List α)(n i:Nat):List α:=ys.take i++List.replicate (n - i) z0
theorem pK {α:Type}(z0:α)(ys:List α)(n:Nat):wF z0 ys n 0=List.replicate n z0:=by simp [wF]
theorem pL {α:Type}(z0:α)(ys:List α)(n:Nat)(h:ys.length=n):wF z0 ys n n=ys:=by simp [wF,<-h]
theorem pM {α:Type}(z0:α)(ys:List α)(n i:Nat)(hl:ys.length=n)(hi:i<n)(y:α)(hy:ys[i]?=some y):(wF z0 ys n i).set i y=wF z0 ys n (i+1):=by
 unfold wF;have a:i<ys.length:=za;have e:(ys.take i).length=i:=by rw [QX];omega
 rw [yG _ _ za,e,xI,QY a,xQ];congr 1;obtain⟨m,hm⟩:∃m,n - i=m+1:=⟨n - i - 1,za⟩;have d:n - (i+1)=m:=za;rw [hm,d,List.replicate_succ];have hv:ys[i]=y:=by rw [qZ a] at hy;injection hy
 rw [hv];rfl
theorem fH (w:World):zo w 0 none 0 0:=by
 refine⟨⟨by rw [show dg 18446744073709551616 0=[] from by rw [dg];rfl];rfl,λh=>absurd h zh⟩,qX _,zh⟩
theorem mo (w:World):zt w (0:Rat) false none 0 0 none 0 0:=⟨⟨rfl,fH w⟩,⟨0,⟨rfl,zh⟩,fH w⟩⟩
abbrev zy (w:World)(A:zf)(n c:Nat)(xs:List Rat):Prop:=yh zt w A n c xs
abbrev yk (w:World)(g n:Nat)(xs:List Rat):Prop:=y6 zt w 60 g n xs
theorem zy.keep {w':World}(h:zy w A n c xs)(hb:Below w.heap.size w w'):zy w' A n c xs:=yh.below yx h hb
theorem yk.keep {w':World}(h:yk w g n xs)(hb:Below w.heap.size w w'):yk w' g n xs:=y6.below yx h hb
def nQ (w:World)(n:Nat)(xs:List Rat)(e:Ending)(w':World):Prop:=∃g,e=.returned (.slice (some ⟨g,0,none⟩) n n)/\w.heap.size<=g/\yk w' g n xs/\Below w.heap.size w w'
def nE (w:World)(n:Nat)(xs:List Rat)(e:Ending)(w':World):Prop:=∃g,e=.returned (.tuple #[.slice (some ⟨g,0,none⟩) n n,.bool true])/\w.heap.size<=g/\yk w' g n xs/\Below w.heap.size w w'
def iy (w:World)(e:Ending)(w':World):Prop:=e=.returned (.tuple #[.slice none 0 0,.bool false])/\Below w.heap.size w w'
theorem sc (w:World)(n:Nat):yk (w.alloc (.cells (madeCells rG (n*3)) 60)) w.heap.size n (List.replicate n 0):=y6.made w _ n 0 mo
theorem mK:(prog.info? 60).map (λi=>(i.zero,i.size,i.bytes))=some (some (.agg #[.bool false,.slice none 0 0,.slice none 0 0]),3,56):=zV
theorem ug (h:w.cell? (ad.add (k+1))=some v):w.cell? ⟨(ad.add k).block,(ad.add k).off+1,none⟩=some v:=by
 rw [<-ku] at h;exact h
theorem sW (h:w.cell? (ad.add (k+2))=some v):w.cell? ⟨(ad.add k).block,(ad.add k).off+2,none⟩=some v:=by
 rw [<-ku] at h;exact h
theorem ov (n:Nat)(hn:n<=1099511627776):∃Z:Array Value,∀W:World,(Instr.makeSlice 32 (.int .i64 (n:Int)) (.int .i64 (n:Int))).run prog W=.ok (.slice (some ⟨W.heap.size,0,none⟩) n n) (W.alloc (.cells Z 60))/\yk (W.alloc (.cells Z 60)) W.heap.size n (List.replicate n 0):=by
 obtain⟨i0,a,d,g,i⟩:=info_parts mK;refine⟨madeCells rG (n*3),λW=>⟨?_,sc W n⟩⟩;have h:=uw (P:=prog) _ _ i0 _ underlying32 a d .i64 .i64 n n (qX _) (by rw [i];omega) za W;rw [g] at h;exact h
theorem zy.get {wr:World}(h:zy w A n c xs)(hb:Below w.heap.size w wr){i:Nat}(hi:i<n):∃(ad:Addr) (b:Bool) (B:zf) (m d:Nat) (F:zf) (u v:Nat),A=some ad/\ad.block<w.heap.size/\wr.cell? (ad.add (i*3))=some (.bool b)/\wr.cell? ⟨(ad.add (i*3)).block,(ad.add (i*3)).off+1,none⟩=some (.slice B m d)/\wr.cell? ⟨(ad.add (i*3)).block,(ad.add (i*3)).off+2,none⟩=some (.slice F u v)/\zt wr (xs.getD i 0) b B m d F u v:=by
 obtain⟨ad,b,B,m,d,F,u,v,e,h0,h1,h2,h3,h4⟩:=h.at_ hi 0;exact⟨ad,b,B,m,d,F,u,v,e,h0,zq hb h1,zq hb (ug h2),zq hb (sW h3),h4.below hb⟩
theorem qF {k:Nat}(h:ad.block≠g):(ad.add k).block≠g:=by rw [y9];exact h
theorem pI {W:World}(i j k:Nat)(x y z:Value)(hg:w.heap.size<=g)(h:Below w.heap.size w W):Below w.heap.size w (((W.setCell ⟨g,i,none⟩ x).setCell ⟨g,j,none⟩ y).setCell ⟨g,k,none⟩ z):=zG z hg (zG y hg (zG x hg h))
open Go Go.RowKit Go.Proofs.Tryz
set_option maxHeartbeats 16000000
def sS (w:World)(x:Nat)(e:Ending)(w':World):Prop:=∃(A:zf) (n c:Nat),e=.returned (.agg #[.slice A n c])/\zo w' x A n c/\Below w.heap.size w w'
def iu (w:World)(x y:Nat)(e:Ending)(w':World):Prop:=∃(A:zf) (n c:Nat) (B:zf) (m d:Nat),e=.returned (.tuple #[.agg #[.slice A n c],.agg #[.slice B m d]])/\zo w' x A n c/\zo w' y B m d/\Below w.heap.size w w'
theorem Sz.gcd {K K':Nat}(h:Sz K x)(h':Sz K' y):Sz (K+K') (Nat.gcd x y):=by
 rcases QR x with e|e
 ·rw [e,XE];exact h'.up za
 ·exact(h.of_le (Nat.gcd_le_left y e)).up za
structure jo:Prop where
 of:∀(x y:Nat) (A D:zf) (n m c d:Nat) (w:World),zo w x A n c->zo w y D m d->n<=1073741824->m<=1073741824->zu w->Calls prog 114 #[.agg #[.slice A n c],.agg #[.slice D m d]] w (sS w (Nat.gcd x y))
 reduce:∀(x y:Nat) (A D:zf) (n m c d:Nat) (w:World),zo w x A n c->zo w y D m d->n<=1073741824->m<=1073741824->zu w->Calls prog 94 #[.agg #[.slice A n c],.agg #[.slice D m d]] w (iu w (x / Nat.gcd x y) (y / Nat.gcd x y))
open Go Go.RowKit Go.Proofs.Tryz
set_option maxHeartbeats 16000000
def uP (_:TypeId)(cs:Array Value):Prop:=ye cs
def FN (x:Nat)(v:Value)(w:World):Prop:=∃(B:zf) (m d:Nat),v=.agg #[.slice B m d]/\zo w x B m d
def xg (x y:Nat)(v:Value)(w:World):Prop:=∃(B:zf) (m d:Nat) (C:zf) (n e:Nat),v=.tuple #[.agg #[.slice B m d],.agg #[.slice C n e]]/\zo w x B m d/\zo w y C n e
def FI (z:Int)(v:Value)(w:World):Prop:=∃(b:Bool) (A:zf) (n c:Nat),v=.agg #[.bool b,.slice A n c]/\zN w z b A n c
def FQ (r:Rat)(v:Value)(w:World):Prop:=∃(b:Bool) (A:zf) (n c:Nat) (E:zf) (k f:Nat),v=.agg #[.bool b,.slice A n c,.slice E k f]/\zt w r b A n c E k f
def mN (r:Rat)(t:Bool)(v:Value)(w:World):Prop:=∃(b:Bool) (A:zf) (n c:Nat) (E:zf) (k f:Nat),v=.tuple #[.agg #[.bool b,.slice A n c,.slice E k f],.bool t]/\zt w r b A n c E k f
def FV (u v:Value)(w:World):Prop:=v=u
instance {B:TypeId->Array Value->Prop}(u:Value):Kf B (FV u):=⟨λ_ _ _ _ h=>h,λ_ _ _ _ _ _ _ _ _ h=>h⟩
instance (x:Nat):Kf uP (FN x):=⟨λv w w' hb ⟨B,m,d,e,h⟩=>⟨B,m,d,e,h.below hb⟩,λv w w' g t cs hB hk hf ⟨B,m,d,e,h⟩=>⟨B,m,d,e,ou h hk hB hf.1⟩⟩
instance (x y:Nat):Kf uP (xg x y):=⟨λv w w' hb ⟨B,m,d,C,n,f,e,h,h2⟩=>⟨B,m,d,C,n,f,e,h.below hb,h2.below hb⟩,λv w w' g t cs hB hk hf ⟨B,m,d,C,n,f,e,h,h2⟩=>⟨B,m,d,C,n,f,e,ou h hk hB hf.1,ou h2 hk hB hf.1⟩⟩
instance (z:Int):Kf uP (FI z):=⟨λv w w' hb ⟨b,A,n,c,e,h⟩=>⟨b,A,n,c,e,h.below hb⟩,λv w w' g t cs hB hk hf ⟨b,A,n,c,e,h⟩=>⟨b,A,n,c,e,iE h hk hB hf.1⟩⟩
instance (r:Rat):Kf uP (FQ r):=⟨λv w w' hb ⟨b,A,n,c,E,k,f,e,h⟩=>⟨b,A,n,c,E,k,f,e,h.below hb⟩,λv w w' g t cs hB hk hf ⟨b,A,n,c,E,k,f,e,h⟩=>⟨b,A,n,c,E,k,f,e,pO h hk hB hf.1⟩⟩
instance (r:Rat)(u:Bool):Kf uP (mN r u):=⟨λv w w' hb ⟨b,A,n,c,E,k,f,e,h⟩=>⟨b,A,n,c,E,k,f,e,h.below hb⟩,λv w w' g t cs hB hk hf ⟨b,A,n,c,E,k,f,e,h⟩=>⟨b,A,n,c,E,k,f,e,pO h hk hB hf.1⟩⟩
theorem xg.l:∀v w,xg x y v w->∃vs u,v=.tuple vs/\vs[0]?=some u/\FN x u w:=λv w ⟨B,m,d,C,n,f,e,h,h2⟩=>⟨_,_,e,rfl,B,m,d,rfl,h⟩
theorem xg.r:∀v w,xg x y v w->∃vs u,v=.tuple vs/\vs[1]?=some u/\FN y u w:=λv w ⟨B,m,d,C,n,f,e,h,h2⟩=>⟨_,_,e,rfl,C,n,f,rfl,h2⟩
theorem mN.l {r:Rat}{t:Bool}:∀v w,mN r t v w->∃vs u,v=.tuple vs/\vs[0]?=some u/\FQ r u w:=λv w ⟨b,A,n,c,E,k,f,e,h⟩=>⟨_,_,e,rfl,b,A,n,c,E,k,f,rfl,h⟩
theorem mN.r {r:Rat}{t:Bool}:∀v w,mN r t v w->∃vs u,v=.tuple vs/\vs[1]?=some u/\FV (.bool t) u w:=λv w ⟨b,A,n,c,E,k,f,e,h⟩=>⟨_,_,e,rfl,rfl⟩
open Go Go.RowKit Go.Proofs.Tryz
set_option maxHeartbeats 16000000
section
variable {P:Program}{ops:Array Oper}{Q:Exit->Act->World->Prop}{S:World->Prop}{fuel:Nat}{l:Array Bool}{a:Act}{w:World}
theorem pl (i j:Nat){o p:Oper}(hk:∀K':Act->World->Prop,Shut (∀(a:Act) (w:World),S w->(S w->wpAnyH P .any ops (NoPanic Q) S fuel (l.setIfInBounds i true) a w)->K' a w)->Oper.wp P o a w K' (NoPanic Q))(hj:∀K':Act->World->Prop,Shut (∀(a:Act) (w:World),S w->(S w->wpAnyH P .any ops (NoPanic Q) S fuel (l.setIfInBounds j true) a w)->K' a w)->Oper.wp P p a w K' (NoPanic Q))(h1:ops[i]?=some o:=by simp only [qW,qR,qM];rfl)(d:ops[j]?=some p:=by simp only [qW,qR,qM];rfl)(h2:Region.ready .any ops l=[i,j]:=by kernel_rfl)(h3:Region.wanted o (yielded ops a.tmps)=true:=by rfl)(g:Region.wanted p (yielded ops a.tmps)=true:=by rfl):wpAnyH P .any ops (NoPanic Q) S (fuel+1) l a w:=
 wpAnyH_ready h2 zD (AllReadyH.cons h1 (λK' hK=>by rw [if_pos h3];exact hk K' hK) (AllReadyH.cons d (λK' hK=>by rw [if_pos g];exact hj K' hK) AllReadyH.nil))
theorem aG (i j k:Nat){o p q:Oper}(hk:∀K':Act->World->Prop,Shut (∀(a:Act) (w:World),S w->(S w->wpAnyH P .any ops (NoPanic Q) S fuel (l.setIfInBounds i true) a w)->K' a w)->Oper.wp P o a w K' (NoPanic Q))(hj:∀K':Act->World->Prop,Shut (∀(a:Act) (w:World),S w->(S w->wpAnyH P .any ops (NoPanic Q) S fuel (l.setIfInBounds j true) a w)->K' a w)->Oper.wp P p a w K' (NoPanic Q))(hq:∀K':Act->World->Prop,Shut (∀(a:Act) (w:World),S w->(S w->wpAnyH P .any ops (NoPanic Q) S fuel (l.setIfInBounds k true) a w)->K' a w)->Oper.wp P q a w K' (NoPanic Q))(h1:ops[i]?=some o:=by simp only [qW,qR,qM];rfl)(h:ops[j]?=some p:=by simp only [qW,qR,qM];rfl)(d:ops[k]?=some q:=by simp only [qW,qR,qM];rfl)(h2:Region.ready .any ops l=[i,j,k]:=by kernel_rfl)(h3:Region.wanted o (yielded ops a.tmps)=true:=by rfl)(m:Region.wanted p (yielded ops a.tmps)=true:=by rfl)(g:Region.wanted q (yielded ops a.tmps)=true:=by rfl):wpAnyH P .any ops (NoPanic Q) S (fuel+1) l a w:=
 wpAnyH_ready h2 zD (AllReadyH.cons h1 (λK' hK=>by rw [if_pos h3];exact hk K' hK) (AllReadyH.cons h (λK' hK=>by rw [if_pos m];exact hj K' hK) (AllReadyH.cons d (λK' hK=>by rw [if_pos g];exact hq K' hK) AllReadyH.nil)))
end
