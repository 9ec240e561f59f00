/- What this claim leans on. -/
import Derived.Test.YtielpgdebeggbaaGreatDoorMMeet4
import Derived.Laws.AppendOwn
set_option linter.unusedVariables false
set_option linter.unusedSimpArgs false
namespace Go.Proofs.YtielpgdebeggbaaGreatDoor
open Go Go.RowKit Go.Proofs.Tryz
open Go.ChangeShapes Go.WideShapes Go.ChangeAt
set_option maxHeartbeats 16000000
namespace UA
set_option maxHeartbeats 16000000
theorem jp {H:Type}(d:DataW H):1<=Rows.uptoBulk d:=by
 cases d with
 |lit l=>cases l<;>simp [Rows.uptoBulk]
 |nil=>simp [Rows.uptoBulk]
 |ptr d=>simp [Rows.uptoBulk]
 |slice elems spare=>simp [Rows.uptoBulk]
 |agg parts=>simp [Rows.uptoBulk]
 |iface t d=>simp [Rows.uptoBulk]
 |map entries=>simp [Rows.uptoBulk]
 |held h=>simp [Rows.uptoBulk]
theorem Uc {H:Type}(l:List (DataW H)):l.length<=Rows.uptoBulkAll l:=by
 induction l with
 |nil=>simp [Rows.uptoBulkAll]
 |cons x r ih=>have:=jp x;simp only [Rows.uptoBulkAll,xK];omega
theorem slice_le {H:Type}(a d:List (DataW H)):a.length+d.length+1<=Rows.uptoBulk (.slice a d):=by
 have h1:=Uc a;have h2:=Uc d;simp only [Rows.uptoBulk];omega
end UA
open Go Go.RowKit Go.Proofs.Tryz
open Go.ChangeShapes Go.WideShapes Go.ChangeAt Go.Deep
set_option maxHeartbeats 16000000
open Go Go.RowKit Go.Proofs.Tryz
open Go.ChangeShapes Go.WideShapes Go.ChangeAt Go.Deep
set_option maxHeartbeats 16000000
open Go Go.RowKit Go.Proofs.Tryz
set_option maxHeartbeats 16000000
variable {ad:Addr}{cs:Array Value}{f:FuncId}{xs:List Rat}{c g k n x y:Nat}{t:TypeId}{v:Value}{w w':World}{A:ze}
def zu (w:World):Prop:=∀j,j<Lib.deBruijn64tab.length->w.cell? ⟨0,j,none⟩=some (.int .u8 (Lib.deBruijn64tab.getD j 0:Nat))
theorem zu.below {B:Nat}(h:zu w)(hb:Below B w w')(hB:0<B):zu w':=λj hj=>(hb.cell (p:=⟨0,j,none⟩) hB).trans (h j hj)
theorem zu.drewN (h:zu w)(n:Nat):zu (w.drewN n):=h
theorem zu.on (h:zu w)(hb:Below w.heap.size w w'):zu w':=h.below hb (by
 have:=h 0 zf;exact QM w _ this)
open Go Go.RowKit Go.Proofs.Tryz
set_option maxHeartbeats 16000000
theorem jB (x a:Nat)(hx:x<18446744073709551616)(hx0:x≠0)(d:x&&&(18446744073709551616 - x)=a):
  IntKind.u64.wrap (bits BinOp.and IntKind.u64 (x:Int) (IntKind.u64.wrap (-(x:Int)))*285870213051353865) / 288230376151711744=((a*285870213051353865%18446744073709551616 / 288230376151711744:Nat):Int):=by
 have e1:IntKind.u64.wrap (-(x:Int))=((18446744073709551616 - x:Nat):Int):=by rw [xX];omega
 rw [e1,bits_and_u64_nat x _ hx za,d,xX];omega
theorem SF (x k a:Nat)(w:World)(hx0:((x:Int)==0)=false)
  (d:IntKind.u64.wrap (bits BinOp.and IntKind.u64 (x:Int) (IntKind.u64.wrap (-(x:Int)))*285870213051353865) / 288230376151711744=(a:Int))
  (hi:a<64) (hk:k<64) (hcell:w.cell? ⟨0,a,none⟩=some (.int .u8 k)):
  Calls prog 160 #[.int .u64 x] w λe w'=>e=.returned (.int .i64 k)/\w=w':=by
 go_enter func160,ntmps160;go_wp2_with (simp only [d]);go_ret;exact⟨rfl,rfl⟩
theorem SG (w:World):
  Calls prog 160 #[.int .u64 0] w λe w'=>e=.returned (.int .i64 64)/\w=w':=by
 go_enter func160,ntmps160;go_wp2;go_ret;exact⟨rfl,rfl⟩
theorem TO (x:Int)(hx:Wd x)(w:World)(hT:zu w):
  Calls prog 160 #[.int .u64 x] w λe w'=>e=.returned (.int .i64 (il x))/\w=w':=by
 obtain⟨h0,h1⟩:=hx;obtain⟨x,rfl⟩:=xR h0;have hN:x<18446744073709551616:=za;unfold il;rw [Int.toNat_natCast];by_cases hx0:x=0
 ·subst hx0;exact SG w
 ·obtain⟨d,hk⟩:=Lib.lowest_bit 64 x hx0 hN;obtain⟨hi,g⟩:=Lib.deBruijn64_at _ hk;have a:=hT _ hi;rw [g] at a;exact SF x _ _ w (by simp;omega) (jB x _ hN hx0 d) hi hk a
open Go Go.RowKit Go.Proofs.Tryz
set_option maxHeartbeats 16000000
theorem Qq (x:Int)(hx:Wd x)(w:World)(hT:zu w):
  Calls prog 150 #[.int .u64 x] w λe w'=>e=.returned (.int .i64 (il x))/\w=w':=by
 have H:=zb (TO x hx w hT);clear hT;go_enter func150,ntmps150;go_wp2_with (go_at_call 160;refine H.o.mono ?_;rintro e w' ⟨rfl,rfl⟩);go_ret;exact⟨rfl,rfl⟩
open Go Go.RowKit Go.Proofs.Tryz
set_option maxHeartbeats 16000000
abbrev El (α:Type):=World->α->Bool->ze->Nat->Nat->ze->Nat->Nat->Prop
def zZ (g:Nat)(w w':World):Prop:=w.heap.size<=w'.heap.size/\∀p:Addr,p.block<w.heap.size->p.block≠g->w'.cell? p=w.cell? p
theorem zZ.of_far (h:zT g w w'):zZ g w w':=⟨by rw [h.1];exact qX _,λp _ hp=>h.2 p hp⟩
theorem zZ.of_grown (h:w.grownBy w' (some g)):zZ g w w':=
 ⟨h.size,λp hp a=>World.cell?_of_block (h.block p.block hp (λe=>a (by injection e)))⟩
theorem uI (h:w.grownBy w' none):Below w.heap.size w w':=(qZ _ w).grown h (qX _) (λk e=>by cases e)
theorem WU {k:IntKind}{l:List Nat}(h:zN w w.heap.size 1 A n (zH k l))(hk:zh w g t cs)(a:y9 cs)(ho:zZ g w w'):zN w' w'.heap.size 1 A n (zH k l):=by
 have d:=VD h hk a;refine⟨h.1,λhn=>?_⟩;obtain⟨ad,e,hb,hc⟩:=h.2 hn;refine⟨ad,e,qJ hb ho.1,λj v hv=>?_⟩;rw [ho.2 (ad.add j) (by rw [y4];exact hb) (by rw [y4];exact d hn ad e)];exact hc j v hv
theorem Vd (h:zq w x A n c)(hk:zh w g t cs)(a:y9 cs)(ho:zZ g w w'):zq w' x A n c:=⟨WU h.1 hk a ho,h.2⟩
theorem Vg (h:nB w x A n c)(hk:zh w g t cs)(a:y9 cs)(ho:zZ g w w'):nB w' x A n c:=⟨WU h.1 hk a ho,h.2⟩
structure tY {α:Type}(E:El α):Prop where
 below:∀{w w':World} {x:α} {b:Bool} {A:ze} {n c:Nat} {F:ze} {k f:Nat},E w x b A n c F k f->Below w.heap.size w w'->E w' x b A n c F k f
 offg:∀{w w':World} {x:α} {b:Bool} {A:ze} {n c:Nat} {F:ze} {k f g:Nat} {t:TypeId} {cs:Array Value},E w x b A n c F k f->zh w g t cs->y9 cs->zZ g w w'->E w' x b A n c F k f
theorem z6:tY zo where
 below h hb:=h.below hb
 offg h hk hcs ho:=by
  obtain⟨⟨h1,h2⟩,x,e,h3⟩:=h;exact⟨⟨h1,Vd h2 hk hcs ho⟩,x,e,Vd h3 hk hcs ho⟩
section
variable {α:Type}{E:El α}
structure yg (E:El α)(w:World)(A:ze)(n c:Nat)(xs:List α):Prop where
 len:xs.length=n
 fits:n<=c
 most:c<=9223372036854775807
 num:∀i x,xs[i]?=some x->∃(ad:Addr) (b:Bool) (B:ze) (m d:Nat) (F:ze) (u v:Nat),A=some ad/\ad.block<w.heap.size/\w.cell? (ad.add (i*3))=some (.bool b)/\w.cell? (ad.add (i*3+1))=some (.slice B m d)/\w.cell? (ad.add (i*3+2))=some (.slice F u v)/\E w x b B m d F u v
theorem yg.below (hE:tY E){w w':World}{A:ze}{n c:Nat}{xs:List α}(h:yg E w A n c xs)(hb:Below w.heap.size w w'):yg E w' A n c xs:=
 ⟨h.len,h.fits,h.most,λi x hi=>by
  obtain⟨ad,b,B,m,d,F,u,v,e,h1,h2,h3,h4,h5⟩:=h.num i x hi;exact⟨ad,b,B,m,d,F,u,v,e,qJ h1 hb.size,zw hb h2,zw hb h3,zw hb h4,hE.below h5 hb⟩⟩
theorem yg.nil (w:World):yg E w none 0 0 []:=⟨rfl,qX _,zf,λi x hi=>by simp at hi⟩
theorem yg.at_ {n:Nat}{xs:List α}(h:yg E w A n c xs){i:Nat}(hi:i<n)(d0:α):∃(ad:Addr) (b:Bool) (B:ze) (m d:Nat) (F:ze) (u v:Nat),A=some ad/\ad.block<w.heap.size/\w.cell? (ad.add (i*3))=some (.bool b)/\w.cell? (ad.add (i*3+1))=some (.slice B m d)/\w.cell? (ad.add (i*3+2))=some (.slice F u v)/\E w (xs.getD i d0) b B m d F u v:=by
 have hl:=h.len;refine h.num i _ ?_;rw [qQ,qY za];rfl
structure wC (E:El α)(w:World)(t:TypeId)(g n:Nat)(xs:List α):Prop where
 len:xs.length=n
 blk:∃cs:Array Value,zh w g t cs/\y9 cs/\cs.size=n*3
 num:∀i x,xs[i]?=some x->∃(b:Bool) (B:ze) (m d:Nat) (F:ze) (u v:Nat),w.cell? ⟨g,i*3,none⟩=some (.bool b)/\w.cell? ⟨g,i*3+1,none⟩=some (.slice B m d)/\w.cell? ⟨g,i*3+2,none⟩=some (.slice F u v)/\E w x b B m d F u v
theorem wC.lt {t:TypeId}{xs:List α}(h:wC E w t g n xs):g<w.heap.size:=by
 obtain⟨cs,hk,_⟩:=h.blk;exact hk.lt
theorem wC.below (hE:tY E){w w':World}{t:TypeId}{g n:Nat}{xs:List α}(h:wC E w t g n xs)(hb:Below w.heap.size w w'):wC E w' t g n xs:=by
 refine⟨h.len,?_,λi x hi=>?_⟩
 ·obtain⟨cs,hk,h1,h2⟩:=h.blk;exact⟨cs,zg hb hk,h1,h2⟩
 ·obtain⟨b,B,m,d,F,u,v,h1,h2,h3,h4⟩:=h.num i x hi;exact⟨b,B,m,d,F,u,v,zw hb h1,zw hb h2,zw hb h3,hE.below h4 hb⟩
theorem xv (g k:Nat):(⟨g,0,none⟩:Addr).add k=⟨g,k,none⟩:=by unfold Addr.add;split<;>simp_all
theorem wC.row {xs:List α}(h:wC E w t g n xs)(hn:n<=9223372036854775807):yg E w (some ⟨g,0,none⟩) n n xs:=
 ⟨h.len,qX _,hn,λi x hi=>by
  obtain⟨b,B,m,d,F,u,v,h1,h2,h3,h4⟩:=h.num i x hi;exact⟨_,b,B,m,d,F,u,v,rfl,h.lt,by rw [xv];exact h1,by rw [xv];exact h2,by rw [xv];exact h3,h4⟩⟩
theorem wC.ready {xs:List α}(h:wC E w t g n xs){i:Nat}(hi:i<n)(x y:Value):∃a b c:Value,w.cell? ⟨g,i*3,none⟩=some a/\w.frozen? ⟨g,i*3,none⟩=false/\(w.setCell ⟨g,i*3,none⟩ x).cell? ⟨g,i*3+1,none⟩=some b/\(w.setCell ⟨g,i*3,none⟩ x).frozen? ⟨g,i*3+1,none⟩=false/\
  ((w.setCell ⟨g,i*3,none⟩ x).setCell ⟨g,i*3+1,none⟩ y).cell? ⟨g,i*3+2,none⟩=some c/\((w.setCell ⟨g,i*3,none⟩ x).setCell ⟨g,i*3+1,none⟩ y).frozen? ⟨g,i*3+2,none⟩=false:=by
 obtain⟨cs,hk,h1,h2⟩:=h.blk;have d:=hk.set_ (i*3) x;have j:=d.set_ (i*3+1) y;have e0:i*3<cs.size:=za;have e1:i*3+1<(cs.setIfInBounds (i*3) x).size:=by simp;omega
 have e2:i*3+2<((cs.setIfInBounds (i*3) x).setIfInBounds (i*3+1) y).size:=by simp;omega
 exact⟨_,_,_,(hk.cell _).trans (QU e0),hk.frozen _,(d.cell _).trans (QU e1),d.frozen _,(j.cell _).trans (QU e2),j.frozen _⟩
theorem gz (h:y9 cs)(i:Nat){v:Value}(hv:∀k z,v≠.int k z):y9 (cs.setIfInBounds i v):=by
 intro u hu;rw [QO] at hu;rcases xJ hu with hu|rfl
 ·exact h u hu
 ·exact hv
theorem dM (g i j k:Nat)(w:World)(x y z:Value):zT g w (((w.setCell ⟨g,i,none⟩ x).setCell ⟨g,j,none⟩ y).setCell ⟨g,k,none⟩ z):=(((zT.refl g w).set_ i x).set_ j y).set_ k z
theorem wC.set_ (hE:tY E){w:World}{t:TypeId}{g n:Nat}{xs:List α}(h:wC E w t g n xs){i:Nat}(hi:i<n){x:α}{b:Bool}{B:ze}{m d:Nat}{F:ze}{u v:Nat}(hx:E w x b B m d F u v):
  wC E (((w.setCell ⟨g,i*3,none⟩ (.bool b)).setCell ⟨g,i*3+1,none⟩ (.slice B m d)).setCell ⟨g,i*3+2,none⟩ (.slice F u v)) t g n (xs.set i x):=by
 obtain⟨cs,hk,h1,h2⟩:=h.blk;have ho:=zZ.of_far (dM g (i*3) (i*3+1) (i*3+2) w (.bool b) (.slice B m d) (.slice F u v));have a:=((hk.set_ (i*3) (.bool b)).set_ (i*3+1) (.slice B m d)).set_ (i*3+2) (.slice F u v);refine⟨by rw [QY];exact h.len,⟨_,a,?_,by simp;exact h2⟩,λj y hj=>?_⟩
 ·exact gz (gz (gz h1 _ (λ_ _ e=>by cases e)) _ (λ_ _ e=>by cases e)) _ (λ_ _ e=>by cases e)
 ·by_cases hij:i=j
  ·subst hij;have hl:=h.len;rw [XQ za] at hj;injection hj with hj;subst hj;refine⟨b,B,m,d,F,u,v,?_,?_,?_,hE.offg hx hk h1 ho⟩
   ·rw [a.cell,qK za,qK za,QZ za]
   ·rw [a.cell,qK za,QZ (by simp;omega)]
   ·rw [a.cell,QZ (by simp;omega)]
  ·rw [XY hij] at hj;obtain⟨b',B',m',d',F',u',v',c1,c2,c3,c4⟩:=h.num j y hj;refine⟨b',B',m',d',F',u',v',?_,?_,?_,hE.offg c4 hk h1 ho⟩
   ·rw [a.cell,qK za,qK za,qK za,<-hk.cell];exact c1
   ·rw [a.cell,qK za,qK za,qK za,<-hk.cell];exact c2
   ·rw [a.cell,qK za,qK za,qK za,<-hk.cell];exact c3
end
theorem kj (z:Array Value)(n j:Nat)(h:j<n):(madeCells z n)[j]?=some z[j%z.size]!:=by
 unfold madeCells;rw [Array.getElem?_map,QU (by simpa using h)];simp
def nI:Array Value:=#[.bool false,.slice none 0 0,.slice none 0 0]
theorem OK (n:Nat):y9 (madeCells nI n):=by
 intro v hv k z e;rw [YX,Array.mem_iff_getElem?] at hv;obtain⟨j,hj⟩:=hv;have a:j<n:=by
  have:=(Array.getElem?_eq_some_iff.1 hj).1;rwa [size_madeCells] at this
 rw [kj _ _ _ a] at hj;have h3:j%3=0\/j%3=1\/j%3=2:=za;rw [show nI.size=3 from rfl] at hj;subst e;rcases h3 with h3|h3|h3<;>rw [h3] at hj<;>simp [nI] at hj
theorem wC.made {α:Type}{E:El α}(w:World)(t:TypeId)(n:Nat)(z0:α)(hz:∀w',E w' z0 false none 0 0 none 0 0):wC E (w.alloc (.cells (madeCells nI (n*3)) t)) t w.heap.size n (List.replicate n z0):=by
 have hk:=zh.new w t (madeCells nI (n*3));refine⟨zF,⟨_,hk,OK _,size_madeCells _ _⟩,λi x hi=>?_⟩;have a:i<n:=by
  have:=(List.getElem?_eq_some_iff.1 hi).1;simpa using this
 obtain rfl:z0=x:=by
  rw [List.getElem?_replicate,if_pos a] at hi;injection hi
 have e0:(i*3)%3=0:=za;have e1:(i*3+1)%3=1:=za;have e2:(i*3+2)%3=2:=za;refine⟨false,none,0,0,none,0,0,?_,?_,?_,hz _⟩
 ·rw [hk.cell,kj _ _ _ za,show nI.size=3 from rfl,e0];rfl
 ·rw [hk.cell,kj _ _ _ za,show nI.size=3 from rfl,e1];rfl
 ·rw [hk.cell,kj _ _ _ za,show nI.size=3 from rfl,e2];rfl
def vC {α:Type}(z0:α)(ys:List α)(n i:Nat):List α:=ys.take i++List.replicate (n - i) z0
theorem sV {α:Type}(z0:α)(ys:List α)(n:Nat):vC z0 ys n 0=List.replicate n z0:=by simp [vC]
theorem sQ {α:Type}(z0:α)(ys:List α)(n:Nat)(h:ys.length=n):vC z0 ys n n=ys:=by simp [vC,<-h]
theorem sR {α:Type}(z0:α)(ys:List α)(n i:Nat)(hl:ys.length=n)(hi:i<n)(y:α)(hy:ys[i]?=some y):(vC z0 ys n i).set i y=vC z0 ys n (i+1):=by
 unfold vC;have a:i<ys.length:=za;have e:(ys.take i).length=i:=by rw [qE];omega
 rw [yB _ _ za,e,XK,QG a,xQ];congr 1;obtain⟨m,hm⟩:∃m,n - i=m+1:=⟨n - i - 1,za⟩;have d:n - (i+1)=m:=za;rw [hm,d,List.replicate_succ];have hv:ys[i]=y:=by rw [qY a] at hy;injection hy
 rw [hv];rfl
theorem WC (w:World):zq w 0 none 0 0:=by
 refine⟨⟨by rw [show dg 18446744073709551616 0=[] from by rw [dg];rfl];rfl,λh=>absurd h zf⟩,qX _,zf⟩
theorem iI (w:World):zo w (0:Rat) false none 0 0 none 0 0:=⟨⟨rfl,WC w⟩,⟨0,⟨rfl,zf⟩,WC w⟩⟩
abbrev zR (w:World)(A:ze)(n c:Nat)(xs:List Rat):Prop:=yg zo w A n c xs
abbrev yf (w:World)(g n:Nat)(xs:List Rat):Prop:=wC zo w 52 g n xs
theorem zR.keep {w':World}(h:zR w A n c xs)(hb:Below w.heap.size w w'):zR w' A n c xs:=yg.below z6 h hb
theorem yf.keep {w':World}(h:yf w g n xs)(hb:Below w.heap.size w w'):yf w' g n xs:=wC.below z6 h hb
def sA (w:World)(n:Nat)(xs:List Rat)(e:Ending)(w':World):Prop:=∃g,e=.returned (.slice (some ⟨g,0,none⟩) n n)/\w.heap.size<=g/\yf w' g n xs/\Below w.heap.size w w'
def tj (w:World)(n:Nat)(xs:List Rat)(e:Ending)(w':World):Prop:=∃g,e=.returned (.tuple #[.slice (some ⟨g,0,none⟩) n n,.bool true])/\w.heap.size<=g/\yf w' g n xs/\Below w.heap.size w w'
theorem pM (w:World)(n:Nat):yf (w.alloc (.cells (madeCells nI (n*3)) 52)) w.heap.size n (List.replicate n 0):=wC.made w _ n 0 iI
theorem lL:(prog.info? 52).map (λi=>(i.zero,i.size,i.bytes))=some (some (.agg #[.bool false,.slice none 0 0,.slice none 0 0]),3,56):=yd
theorem eU (h:w.cell? (ad.add (k+1))=some v):w.cell? ⟨(ad.add k).block,(ad.add k).off+1,none⟩=some v:=by
 rw [<-kk] at h;exact h
theorem Td (h:w.cell? (ad.add (k+2))=some v):w.cell? ⟨(ad.add k).block,(ad.add k).off+2,none⟩=some v:=by
 rw [<-kk] at h;exact h
theorem nA (n:Nat)(hn:n<=1099511627776):∃Z:Array Value,∀W:World,(Instr.makeSlice 41 (.int .i64 (n:Int)) (.int .i64 (n:Int))).run prog W=.ok (.slice (some ⟨W.heap.size,0,none⟩) n n) (W.alloc (.cells Z 52))/\yf (W.alloc (.cells Z 52)) W.heap.size n (List.replicate n 0):=by
 obtain⟨i0,a,d,g,i⟩:=info_parts lL;refine⟨madeCells nI (n*3),λW=>⟨?_,pM W n⟩⟩;have h:=oN (P:=prog) _ _ i0 _ underlying41 a d .i64 .i64 n n (qX _) (by rw [i];omega) za W;rw [g] at h;exact h
theorem zR.get {wr:World}(h:zR w A n c xs)(hb:Below w.heap.size w wr){i:Nat}(hi:i<n):∃(ad:Addr) (b:Bool) (B:ze) (m d:Nat) (F:ze) (u v:Nat),A=some ad/\ad.block<w.heap.size/\wr.cell? (ad.add (i*3))=some (.bool b)/\wr.cell? ⟨(ad.add (i*3)).block,(ad.add (i*3)).off+1,none⟩=some (.slice B m d)/\wr.cell? ⟨(ad.add (i*3)).block,(ad.add (i*3)).off+2,none⟩=some (.slice F u v)/\zo wr (xs.getD i 0) b B m d F u v:=by
 obtain⟨ad,b,B,m,d,F,u,v,e,h0,h1,h2,h3,h4⟩:=h.at_ hi 0;exact⟨ad,b,B,m,d,F,u,v,e,h0,zw hb h1,zw hb (eU h2),zw hb (Td h3),h4.below hb⟩
theorem aD {k:Nat}(h:ad.block≠g):(ad.add k).block≠g:=by rw [y4];exact h
theorem jE {W:World}(i j k:Nat)(x y z:Value)(hg:w.heap.size<=g)(h:Below w.heap.size w W):Below w.heap.size w (((W.setCell ⟨g,i,none⟩ x).setCell ⟨g,j,none⟩ y).setCell ⟨g,k,none⟩ z):=zQ z hg (zQ y hg (zQ x hg h))
open Go Go.RowKit Go.Proofs.Tryz
set_option maxHeartbeats 16000000
theorem sZ {P:Program}{args:Array Value}{z v:Int}(e:z=v)(h:Calls P f args w (vU w z)):Calls P f args w λe w'=>e=.returned (.int .i64 v)/\Below w.heap.size w w':=by
 subst e;exact h
theorem wE {P:Program}{args:Array Value}{b t:Bool}(e:b=t)(h:Calls P f args w λe w'=>e=.returned (.bool b)/\Below w.heap.size w w'):Calls P f args w λe w'=>e=.returned (.bool t)/\Below w.heap.size w w':=by
 subst e;exact h
theorem qF {T:World->Prop}(IC:kM T)(x:Nat)(A:ze)(n c:Nat)(w:World)(hT:T w)(h:zq w x A n c)(hn:n<=268435456):Calls prog 113 #[.bool false,.agg #[.slice A n c]] w (wl w (x:Int)):=
 IC.new false x A n c w hT h hn
open Go Go.RowKit Go.Proofs.Tryz
set_option maxHeartbeats 16000000
def tc (_:TypeId)(cs:Array Value):Prop:=y9 cs
def FN (x:Nat)(v:Value)(w:World):Prop:=∃(B:ze) (m d:Nat),v=.agg #[.slice B m d]/\zq w x B m d
def vl (x y:Nat)(v:Value)(w:World):Prop:=∃(B:ze) (m d:Nat) (C:ze) (n e:Nat),v=.tuple #[.agg #[.slice B m d],.agg #[.slice C n e]]/\zq w x B m d/\zq w y C n e
def FI (z:Int)(v:Value)(w:World):Prop:=∃(b:Bool) (A:ze) (n c:Nat),v=.agg #[.bool b,.slice A n c]/\yi w z b A n c
def FQ (r:Rat)(v:Value)(w:World):Prop:=∃(b:Bool) (A:ze) (n c:Nat) (E:ze) (k f:Nat),v=.agg #[.bool b,.slice A n c,.slice E k f]/\zo w r b A n c E k f
def wR (r:Rat)(t:Bool)(v:Value)(w:World):Prop:=∃(b:Bool) (A:ze) (n c:Nat) (E:ze) (k f:Nat),v=.tuple #[.agg #[.bool b,.slice A n c,.slice E k f],.bool t]/\zo w r b A n c E k f
def FV (u v:Value)(w:World):Prop:=v=u
instance {B:TypeId->Array Value->Prop}(u:Value):Kf B (FV u):=⟨λ_ _ _ _ h=>h,λ_ _ _ _ _ _ _ _ _ h=>h⟩
instance (x:Nat):Kf tc (FN x):=⟨λv w w' hb ⟨B,m,d,e,h⟩=>⟨B,m,d,e,h.below hb⟩,λv w w' g t cs hB hk hf ⟨B,m,d,e,h⟩=>⟨B,m,d,e,uO h hk hB hf.1⟩⟩
instance (x y:Nat):Kf tc (vl x y):=⟨λv w w' hb ⟨B,m,d,C,n,f,e,h,h2⟩=>⟨B,m,d,C,n,f,e,h.below hb,h2.below hb⟩,λv w w' g t cs hB hk hf ⟨B,m,d,C,n,f,e,h,h2⟩=>⟨B,m,d,C,n,f,e,uO h hk hB hf.1,uO h2 hk hB hf.1⟩⟩
instance (z:Int):Kf tc (FI z):=⟨λv w w' hb ⟨b,A,n,c,e,h⟩=>⟨b,A,n,c,e,h.below hb⟩,λv w w' g t cs hB hk hf ⟨b,A,n,c,e,h⟩=>⟨b,A,n,c,e,Yz h hk hB hf.1⟩⟩
instance (r:Rat):Kf tc (FQ r):=⟨λv w w' hb ⟨b,A,n,c,E,k,f,e,h⟩=>⟨b,A,n,c,E,k,f,e,h.below hb⟩,λv w w' g t cs hB hk hf ⟨b,A,n,c,E,k,f,e,h⟩=>⟨b,A,n,c,E,k,f,e,iY h hk hB hf.1⟩⟩
instance (r:Rat)(u:Bool):Kf tc (wR r u):=⟨λv w w' hb ⟨b,A,n,c,E,k,f,e,h⟩=>⟨b,A,n,c,E,k,f,e,h.below hb⟩,λv w w' g t cs hB hk hf ⟨b,A,n,c,E,k,f,e,h⟩=>⟨b,A,n,c,E,k,f,e,iY h hk hB hf.1⟩⟩
theorem vl.l:∀v w,vl x y v w->∃vs u,v=.tuple vs/\vs[0]?=some u/\FN x u w:=λv w ⟨B,m,d,C,n,f,e,h,h2⟩=>⟨_,_,e,rfl,B,m,d,rfl,h⟩
theorem vl.r:∀v w,vl x y v w->∃vs u,v=.tuple vs/\vs[1]?=some u/\FN y u w:=λv w ⟨B,m,d,C,n,f,e,h,h2⟩=>⟨_,_,e,rfl,C,n,f,rfl,h2⟩
theorem wR.l {r:Rat}{t:Bool}:∀v w,wR r t v w->∃vs u,v=.tuple vs/\vs[0]?=some u/\FQ r u w:=λv w ⟨b,A,n,c,E,k,f,e,h⟩=>⟨_,_,e,rfl,b,A,n,c,E,k,f,rfl,h⟩
theorem wR.r {r:Rat}{t:Bool}:∀v w,wR r t v w->∃vs u,v=.tuple vs/\vs[1]?=some u/\FV (.bool t) u w:=λv w ⟨b,A,n,c,E,k,f,e,h⟩=>⟨_,_,e,rfl,rfl⟩
open Go Go.RowKit Go.Proofs.Tryz
set_option maxHeartbeats 16000000
set_option maxRecDepth 100000
open Go Go.RowKit Go.Proofs.Tryz
set_option maxHeartbeats 16000000
set_option maxRecDepth 100000
open Go Go.RowKit Go.Proofs.Tryz
set_option maxHeartbeats 16000000
set_option maxRecDepth 100000
def Fr (w:World)(A:ze):Prop:=∀ad,A=some ad->w.heap.size<=ad.block
open Go Go.RowKit Go.Proofs.Tryz
set_option maxHeartbeats 16000000
section
variable {P:Program}{ops:Array Oper}{Q:Exit->Act->World->Prop}{S:World->Prop}{fuel:Nat}{l:Array Bool}{a:Act}{w:World}
theorem sN (i j:Nat){o p:Oper}(hk:∀K':Act->World->Prop,Shut (∀(a:Act) (w:World),S w->(S w->wpAnyH P .any ops (NoPanic Q) S fuel (l.setIfInBounds i true) a w)->K' a w)->Oper.wp P o a w K' (NoPanic Q))(hj:∀K':Act->World->Prop,Shut (∀(a:Act) (w:World),S w->(S w->wpAnyH P .any ops (NoPanic Q) S fuel (l.setIfInBounds j true) a w)->K' a w)->Oper.wp P p a w K' (NoPanic Q))(h1:ops[i]?=some o:=by simp only [qT,qG,qR];rfl)(d:ops[j]?=some p:=by simp only [qT,qG,qR];rfl)(h2:Region.ready .any ops l=[i,j]:=by kernel_rfl)(h3:Region.wanted o (yielded ops a.tmps)=true:=by rfl)(g:Region.wanted p (yielded ops a.tmps)=true:=by rfl):wpAnyH P .any ops (NoPanic Q) S (fuel+1) l a w:=
 wpAnyH_ready h2 zF (AllReadyH.cons h1 (λK' hK=>by rw [if_pos h3];exact hk K' hK) (AllReadyH.cons d (λK' hK=>by rw [if_pos g];exact hj K' hK) AllReadyH.nil))
theorem Za (i j:Nat){o p:Oper}{u v:Value}{a1 a2 a':Act}(hn:wpAnyH P .any ops (NoPanic Q) S fuel ((l.setIfInBounds i true).setIfInBounds j true) a' w)(h1:ops[i]?=some o:=by simp only [qT,qG,qR];rfl)(d:ops[j]?=some p:=by simp only [qT,qG,qR];rfl)(ri:Sem.run P (execOp a.eval o) w=Result.ok (Next.value u) w:=by(go_simp;(try with_reducible rfl)))(rj:Sem.run P (execOp a.eval p) w=Result.ok (Next.value v) w:=by(go_simp;(try with_reducible rfl)))(e1:a.put o.dst u=a1:=by(simp only [z8];try rfl))(e2:a.put p.dst v=a2:=by(simp only [z8];try rfl))(m:Sem.run P (execOp a2.eval o) w=Result.ok (Next.value u) w:=by(go_simp;(try with_reducible rfl)))(n:Sem.run P (execOp a1.eval p) w=Result.ok (Next.value v) w:=by(go_simp;(try with_reducible rfl)))(f1:a1.put p.dst v=a':=by(simp only [z8];try rfl))(f2:a2.put o.dst u=a':=by(simp only [z8];try rfl))(h2:Region.ready .any ops l=[i,j]:=by kernel_rfl)(h:Region.ready .any ops (l.setIfInBounds i true)=[j]:=by kernel_rfl)(k:Region.ready .any ops (l.setIfInBounds j true)=[i]:=by kernel_rfl)(hl:(l.setIfInBounds j true).setIfInBounds i true=(l.setIfInBounds i true).setIfInBounds j true:=by kernel_rfl)(h3:o.guard=none:=by rfl)(g:p.guard=none:=by rfl)(hS:S w:=by with_reducible assumption):wpAnyH P .any ops (NoPanic Q) S (fuel+1+1) l a w:=by
 have w1:∀b:Act,Region.wanted o (yielded ops b.tmps)=true:=λb=>by unfold Region.wanted;rw [h3]
 have w2:∀b:Act,Region.wanted p (yielded ops b.tmps)=true:=λb=>by unfold Region.wanted;rw [g]
 refine sN i j (λK hK=>?_) (λK hK=>?_) h1 d h2 (w1 a) (w2 a)
 ·refine gj ri (hK.out _ _ hS λ_=>?_);rw [e1];refine rc j (λK hK=>gj n (hK.out _ _ hS λ_=>?_)) d h (w2 a1);rw [f1];exact hn
 ·refine gj rj (hK.out _ _ hS λ_=>?_);rw [e2];refine rc i (λK hK=>gj m (hK.out _ _ hS λ_=>?_)) h1 k (w1 a2);rw [f2,hl];exact hn
end
