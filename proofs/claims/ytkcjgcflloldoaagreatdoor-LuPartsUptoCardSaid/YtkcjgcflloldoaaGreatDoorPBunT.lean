/- What this claim leans on. -/
import Derived.Test.YtkcjgcflloldoaaGreatDoorPMeet4
import Derived.Laws.AppendOwn
set_option linter.unusedVariables false
set_option linter.unusedSimpArgs false
namespace Go.Proofs.YtkcjgcflloldoaaGreatDoor
open Go Go.RowKit Go.Proofs.Tryz
set_option maxHeartbeats 16000000
variable {ad:Addr}{cs:Array Value}{p:Int}{xs ys:List Rat}{K K' L c g k n x:Nat}{y:Rat}{t:TypeId}{v:Value}{w w':World}{A:ze}
def zu (w:World):Prop:=∀j,j<Lib.deBruijn64tab.length->w.cell? ⟨0,j,none⟩=some (.int .u8 (Lib.deBruijn64tab.getD j 0:Nat))
theorem zu.below {B:Nat}(h:zu w)(hb:Below B w w')(hB:0<B):zu w':=λj hj=>(hb.cell (p:=⟨0,j,none⟩) hB).trans (h j hj)
theorem zu.drewN (h:zu w)(n:Nat):zu (w.drewN n):=h
theorem zu.on (h:zu w)(hb:Below w.heap.size w w'):zu w':=h.below hb (by
 have:=h 0 zf;exact xY w _ this)
theorem iA (x a:Nat)(hx:x<18446744073709551616)(hx0:x≠0)(c:x&&&(18446744073709551616 - x)=a):
  IntKind.u64.wrap (bits BinOp.and IntKind.u64 (x:Int) (IntKind.u64.wrap (-(x:Int)))*285870213051353865) / 288230376151711744=((a*285870213051353865%18446744073709551616 / 288230376151711744:Nat):Int):=by
 have e1:IntKind.u64.wrap (-(x:Int))=((18446744073709551616 - x:Nat):Int):=by rw [QT];omega
 rw [e1,bits_and_u64_nat x _ hx za,c,QT];omega
theorem RT (x k a:Nat)(w:World)(hx0:((x:Int)==0)=false)
  (c:IntKind.u64.wrap (bits BinOp.and IntKind.u64 (x:Int) (IntKind.u64.wrap (-(x:Int)))*285870213051353865) / 288230376151711744=(a:Int))
  (hi:a<64) (hk:k<64) (hcell:w.cell? ⟨0,a,none⟩=some (.int .u8 k)):
  Calls prog 180 #[.int .u64 x] w λe w'=>e=.returned (.int .i64 k)/\w=w':=by
 go_enter func180,ntmps180;go_wp2_with (simp only [c]);go_ret;exact⟨rfl,rfl⟩
theorem RU (w:World):
  Calls prog 180 #[.int .u64 0] w λe w'=>e=.returned (.int .i64 64)/\w=w':=by
 go_enter func180,ntmps180;go_wp2;go_ret;exact⟨rfl,rfl⟩
theorem Su (x:Int)(hx:Wd x)(w:World)(hT:zu w):
  Calls prog 180 #[.int .u64 x] w λe w'=>e=.returned (.int .i64 (gv x))/\w=w':=by
 obtain⟨h0,h1⟩:=hx;obtain⟨x,rfl⟩:=xP h0;have hN:x<18446744073709551616:=za;unfold gv;rw [Int.toNat_natCast];by_cases hx0:x=0
 ·subst hx0;exact RU w
 ·obtain⟨c,hk⟩:=Lib.lowest_bit 64 x hx0 hN;obtain⟨hi,d⟩:=Lib.deBruijn64_at _ hk;have a:=hT _ hi;rw [d] at a;exact RT x _ _ w (by simp;omega) (iA x _ hN hx0 c) hi hk a
theorem Oa (x:Int)(hx:Wd x)(w:World)(hT:zu w):
  Calls prog 171 #[.int .u64 x] w λe w'=>e=.returned (.int .i64 (gv x))/\w=w':=by
 have H:=zb (Su x hx w hT);clear hT;go_enter func171,ntmps171;go_wp2_with (go_at_call 180;refine H.o.mono ?_;rintro e w' ⟨rfl,rfl⟩);go_ret;exact⟨rfl,rfl⟩
def tB (p q:Int):Rat:=Rat.divInt p (if q=0 then 1 else q)
theorem T9 (p:Int):tB p 0=(p:Rat):=by
 unfold tB;rw [if_pos rfl];exact Rat.ext (by rw [Rat.num_divInt,yH];simp) (by rw [Rat.den_divInt,YU];simp)
theorem pU {q:Int}(h:q≠0):tB p q=Rat.divInt p q:=by unfold tB;rw [if_neg h]
theorem fe {z:Int}(h1: -9223372036854775808<=z)(h2:z<=9223372036854775807):Sz 1 z.natAbs:=by
 show z.natAbs<18446744073709551616^1;rw [Nat.pow_one];omega
theorem ip {q:Int}(a: -9223372036854775808<=p)(c:p<=9223372036854775807)(d: -9223372036854775808<=q)(g:q<=9223372036854775807):zm 1 (tB p q):=by
 unfold tB;refine zm.made (fe a c) ?_ zf
 split
 ·exact fe zf zf
 ·exact fe d g
def tL (rs:List Rat):Rat:=rs.foldl (λa b=>a+b) 0
theorem Nt (rs:List Rat)(a:Rat):rs.foldl (λa b=>a+b) a=a+tL rs:=by
 unfold tL
 induction rs generalizing a with
 |nil=>exact(xE a).symm
 |cons r t ih=>
   rw [List.foldl_cons,List.foldl_cons,ih (a+r),ih (0+r),YY,Rat.add_assoc]
theorem NT:tL []=0:=rfl
theorem Up (r:Rat)(rs:List Rat):tL (r::rs)=r+tL rs:=by
 show(r::rs).foldl (λa b=>a+b) 0=_;rw [List.foldl_cons,Nt,YY]
def sM (xs ys:List Rat):Rat:=tL (List.zipWith (λa b=>a*b) xs ys)
def ZH (xs ys:List Rat):List Rat:=List.zipWith (λa b=>a+b) xs ys
def ZU (xs ys:List Rat):List Rat:=List.zipWith (λa b=>a - b) xs ys
def eJ (xs ys:List Rat):List Rat:=List.zipWith (λa b=>a*b) xs ys
def uN (xs:List Rat)(r:Rat)(ys:List Rat):List Rat:=List.zipWith (λa b=>a+r*b) xs ys
def zT (r:Rat)(xs:List Rat):List Rat:=xs.map λx=>r*x
theorem Sx {f:Rat->Rat->Rat}(h:xs.length=n)(k:ys.length=n):(List.zipWith f xs ys).length=n:=by rw [jX,h,k,Nat.min_self]
def um:List Rat->List Rat->Int
 |[],[]=>0
 |[],_::_=> -1
 |_::_,[]=>1
 |x::xs,y::ys=>if x=y then um xs ys else tp x y
theorem nX {x:Rat}(h:x≠y):tp x y≠0:=λe=>h ((nW x y).1 e)
theorem Wk:∀(xs ys:List Rat),um xs ys=0↔xs=ys
 |[],[]=>by simp [um]
 |[],_::_=>by simp [um]
 |_::_,[]=>by simp [um]
 |x::xs,y::ys=>by
   unfold um;by_cases h:x=y
   ·rw [if_pos h,Wk xs ys,h];simp
   ·rw [if_neg h];constructor
    ·intro e;exact absurd e (nX h)
    ·intro e;injection e with e1 e2;exact absurd e1 h
theorem OJ {x:Rat}(h:x=y):um (x::xs) (y::ys)=um xs ys:=by
 show(if x=y then um xs ys else tp x y)=_;exact if_pos h
theorem PU {x:Rat}(h:x≠y):um (x::xs) (y::ys)=tp x y:=by
 show(if x=y then um xs ys else tp x y)=_;exact if_neg h
theorem gT {xs:List Rat}(h:k<xs.length):xs.drop k=xs.getD k 0::xs.drop (k+1):=by
 rw [yE h,qQ,qY h];rfl
theorem Rl (hx:k<xs.length)(hy:k<ys.length)(h:xs.getD k 0=ys.getD k 0):um (xs.drop k) (ys.drop k)=um (xs.drop (k+1)) (ys.drop (k+1)):=by
 rw [gT hx,gT hy,OJ h]
theorem Re (hx:k<xs.length)(hy:k<ys.length)(h:xs.getD k 0≠ys.getD k 0):um (xs.drop k) (ys.drop k)=tp (xs.getD k 0) (ys.getD k 0):=by
 rw [gT hx,gT hy,PU h]
def qb (a b:Nat):Int:=if a<b then -1 else if a=b then 0 else 1
theorem qc (hk:k=min xs.length ys.length):um (xs.drop k) (ys.drop k)=qb xs.length ys.length:=by
 unfold qb;by_cases h1:xs.length<ys.length
 ·rw [if_pos h1,xA za,gT (xs:=ys) za];rfl
 ·rw [if_neg h1];by_cases h2:xs.length=ys.length
  ·rw [if_pos h2,xA za,xA za];rfl
  ·rw [if_neg h2,xA (l:=ys) za,gT (xs:=xs) za];rfl
def zN (K:Nat)(xs:List Rat):Prop:=∀x ∈ xs,zm K x
theorem zN.at_ (h:zN K xs){k:Nat}(hk:k<xs.length):zm K (xs.getD k 0):=by
 rw [qQ,qY hk];exact h _ (xM hk)
theorem zN.up (h:zN K xs)(e:K<=K'):zN K' xs:=λx hx=>(h x hx).up e
theorem zN.zip {K K' L:Nat}{f:Rat->Rat->Rat}(hf:∀x y,zm K x->zm K' y->zm L (f x y)):∀{xs ys:List Rat},zN K xs->zN K' ys->zN L (List.zipWith f xs ys)
 |[],_,_,_=>λx hx=>by cases hx
 |_::_,[],_,_=>λx hx=>by cases hx
 |x::xs,y::ys,h,k=>λz hz=>by
   rw [List.zipWith_cons_cons] at hz;rcases List.mem_cons.1 hz with rfl|hz
   ·exact hf x y (h x XK) (k y XK)
   ·exact zN.zip hf (λa ha=>h a (XW _ ha)) (λa ha=>k a (XW _ ha)) z hz
theorem zN.add (h:zN K xs)(k:zN K' ys):zN (K+K'+1) (ZH xs ys):=zN.zip (λ_ _=>zm.add) h k
theorem zN.sub (h:zN K xs)(k:zN K' ys):zN (K+K'+1) (ZU xs ys):=zN.zip (λ_ _=>zm.sub) h k
theorem zN.mul (h:zN K xs)(k:zN K' ys):zN (K+K') (eJ xs ys):=zN.zip (λ_ _=>zm.mul) h k
theorem zN.addT {r:Rat}(h:zN K xs)(hr:zm L r)(k:zN K' ys):zN (K+(L+K')+1) (uN xs r ys):=zN.zip (λ_ _ a b=>a.add (hr.mul b)) h k
theorem zN.scale {r:Rat}(hr:zm L r)(h:zN K xs):zN (L+K) (zT r xs):=λx hx=>by
 obtain⟨y,hy,rfl⟩:=List.mem_map.1 hx;exact hr.mul (h y hy)
theorem WE {K:Nat}:∀{xs:List Rat},zN K xs->zm (1+xs.length*(K+1)) (tL xs)
 |[],_=>by rw [YN,Nat.zero_mul];exact zm.zero
 |x::xs,h=>by
   rw [Up];exact((h x XK).add (WE λa ha=>h a (XW _ ha))).up (by rw [xO,Nat.succ_mul];omega)
theorem lP (h:zN K xs)(hl:xs.length=n)(k:Nat)(hk:k<=n):zm (1+n*(K+1)) (tL (xs.take k)):=by
 have h1:=WE (xs:=xs.take k) (K:=K) (λa ha=>h a (XZ ha));refine h1.up ?_;rw [qL];have:min k xs.length*(K+1)<=n*(K+1):=qE _ za;omega
theorem ql {n:Nat}(hx:xs.length=n)(hy:ys.length=n)(h:zN K xs)(k:zN K' ys):zm (1+n*(K+K'+1)) (sM xs ys):=by
 have:=WE (zN.mul h k);rw [show(eJ xs ys).length=n from Sx hx hy] at this;exact this
theorem Nn {r:Rat}(hx:xs.length=n):(zT r xs).length=n:=by unfold zT;rw [QP];exact hx
abbrev El (α:Type):=World->α->Bool->ze->Nat->Nat->ze->Nat->Nat->Prop
def yl (g:Nat)(w w':World):Prop:=w.heap.size<=w'.heap.size/\∀p:Addr,p.block<w.heap.size->p.block≠g->w'.cell? p=w.cell? p
theorem yl.of_far (h:xg g w w'):yl g w w':=⟨by rw [h.1];exact qX _,λp _ hp=>h.2 p hp⟩
theorem yl.of_grown (h:w.grownBy w' (some g)):yl g w w':=
 ⟨h.size,λp hp a=>World.cell?_of_block (h.block p.block hp (λe=>a (by injection e)))⟩
theorem sU (h:w.grownBy w' none):Below w.heap.size w w':=(qZ _ w).grown h (qX _) (λk e=>by cases e)
theorem Uj {k:IntKind}{l:List Nat}(h:zL w w.heap.size 1 A n (zt k l))(hk:zh w g t cs)(a:yb cs)(ho:yl g w w'):zL w' w'.heap.size 1 A n (zt k l):=by
 have c:=Uu h hk a;refine⟨h.1,λhn=>?_⟩;obtain⟨ad,e,hb,hc⟩:=h.2 hn;refine⟨ad,e,qJ hb ho.1,λj v hv=>?_⟩;rw [ho.2 (ad.add j) (by rw [yw];exact hb) (by rw [yw];exact c hn ad e)];exact hc j v hv
theorem V5 (h:zo w x A n c)(hk:zh w g t cs)(a:yb cs)(ho:yl g w w'):zo w' x A n c:=⟨Uj h.1 hk a ho,h.2⟩
theorem VL (h:zE w x A n c)(hk:zh w g t cs)(a:yb cs)(ho:yl g w w'):zE w' x A n c:=⟨Uj h.1 hk a ho,h.2⟩
structure vU {α:Type}(E:El α):Prop where
 below:∀{w w':World} {x:α} {b:Bool} {A:ze} {n c:Nat} {F:ze} {k f:Nat},E w x b A n c F k f->Below w.heap.size w w'->E w' x b A n c F k f
 offg:∀{w w':World} {x:α} {b:Bool} {A:ze} {n c:Nat} {F:ze} {k f g:Nat} {t:TypeId} {cs:Array Value},E w x b A n c F k f->zh w g t cs->yb cs->yl g w w'->E w' x b A n c F k f
theorem yt:vU zp where
 below h hb:=h.below hb
 offg h hk hcs ho:=by
  obtain⟨⟨h1,h2⟩,x,e,h3⟩:=h;exact⟨⟨h1,V5 h2 hk hcs ho⟩,x,e,V5 h3 hk hcs ho⟩
section
variable {α:Type}{E:El α}
structure zZ (E:El α)(w:World)(A:ze)(n c:Nat)(xs:List α):Prop where
 len:xs.length=n
 fits:n<=c
 most:c<=9223372036854775807
 num:∀i x,xs[i]?=some x->∃(ad:Addr) (b:Bool) (B:ze) (m d:Nat) (F:ze) (u v:Nat),A=some ad/\ad.block<w.heap.size/\w.cell? (ad.add (i*3))=some (.bool b)/\w.cell? (ad.add (i*3+1))=some (.slice B m d)/\w.cell? (ad.add (i*3+2))=some (.slice F u v)/\E w x b B m d F u v
theorem zZ.below (hE:vU E){w w':World}{A:ze}{n c:Nat}{xs:List α}(h:zZ E w A n c xs)(hb:Below w.heap.size w w'):zZ E w' A n c xs:=
 ⟨h.len,h.fits,h.most,λi x hi=>by
  obtain⟨ad,b,B,m,d,F,u,v,e,h1,h2,h3,h4,h5⟩:=h.num i x hi;exact⟨ad,b,B,m,d,F,u,v,e,qJ h1 hb.size,zq hb h2,zq hb h3,zq hb h4,hE.below h5 hb⟩⟩
theorem zZ.nil (w:World):zZ E w none 0 0 []:=⟨rfl,qX _,zf,λi x hi=>by simp at hi⟩
theorem zZ.at_ {n:Nat}{xs:List α}(h:zZ E w A n c xs){i:Nat}(hi:i<n)(d0:α):∃(ad:Addr) (b:Bool) (B:ze) (m d:Nat) (F:ze) (u v:Nat),A=some ad/\ad.block<w.heap.size/\w.cell? (ad.add (i*3))=some (.bool b)/\w.cell? (ad.add (i*3+1))=some (.slice B m d)/\w.cell? (ad.add (i*3+2))=some (.slice F u v)/\E w (xs.getD i d0) b B m d F u v:=by
 have hl:=h.len;refine h.num i _ ?_;rw [qQ,qY za];rfl
structure wH (E:El α)(w:World)(t:TypeId)(g n:Nat)(xs:List α):Prop where
 len:xs.length=n
 blk:∃cs:Array Value,zh w g t cs/\yb cs/\cs.size=n*3
 num:∀i x,xs[i]?=some x->∃(b:Bool) (B:ze) (m d:Nat) (F:ze) (u v:Nat),w.cell? ⟨g,i*3,none⟩=some (.bool b)/\w.cell? ⟨g,i*3+1,none⟩=some (.slice B m d)/\w.cell? ⟨g,i*3+2,none⟩=some (.slice F u v)/\E w x b B m d F u v
theorem wH.lt {t:TypeId}{xs:List α}(h:wH E w t g n xs):g<w.heap.size:=by
 obtain⟨cs,hk,_⟩:=h.blk;exact hk.lt
theorem wH.below (hE:vU E){w w':World}{t:TypeId}{g n:Nat}{xs:List α}(h:wH E w t g n xs)(hb:Below w.heap.size w w'):wH E w' t g n xs:=by
 refine⟨h.len,?_,λi x hi=>?_⟩
 ·obtain⟨cs,hk,h1,h2⟩:=h.blk;exact⟨cs,zg hb hk,h1,h2⟩
 ·obtain⟨b,B,m,d,F,u,v,h1,h2,h3,h4⟩:=h.num i x hi;exact⟨b,B,m,d,F,u,v,zq hb h1,zq hb h2,zq hb h3,hE.below h4 hb⟩
theorem wu (g k:Nat):(⟨g,0,none⟩:Addr).add k=⟨g,k,none⟩:=by unfold Addr.add;split<;>simp_all
theorem wH.row {xs:List α}(h:wH E w t g n xs)(hn:n<=9223372036854775807):zZ E w (some ⟨g,0,none⟩) n n xs:=
 ⟨h.len,qX _,hn,λi x hi=>by
  obtain⟨b,B,m,d,F,u,v,h1,h2,h3,h4⟩:=h.num i x hi;exact⟨_,b,B,m,d,F,u,v,rfl,h.lt,by rw [wu];exact h1,by rw [wu];exact h2,by rw [wu];exact h3,h4⟩⟩
theorem wH.ready {xs:List α}(h:wH E w t g n xs){i:Nat}(hi:i<n)(x y:Value):∃a b c:Value,w.cell? ⟨g,i*3,none⟩=some a/\w.frozen? ⟨g,i*3,none⟩=false/\(w.setCell ⟨g,i*3,none⟩ x).cell? ⟨g,i*3+1,none⟩=some b/\(w.setCell ⟨g,i*3,none⟩ x).frozen? ⟨g,i*3+1,none⟩=false/\
  ((w.setCell ⟨g,i*3,none⟩ x).setCell ⟨g,i*3+1,none⟩ y).cell? ⟨g,i*3+2,none⟩=some c/\((w.setCell ⟨g,i*3,none⟩ x).setCell ⟨g,i*3+1,none⟩ y).frozen? ⟨g,i*3+2,none⟩=false:=by
 obtain⟨cs,hk,h1,h2⟩:=h.blk;have d:=hk.set_ (i*3) x;have j:=d.set_ (i*3+1) y;have e0:i*3<cs.size:=za;have e1:i*3+1<(cs.setIfInBounds (i*3) x).size:=by simp;omega
 have e2:i*3+2<((cs.setIfInBounds (i*3) x).setIfInBounds (i*3+1) y).size:=by simp;omega
 exact⟨_,_,_,(hk.cell _).trans (QU e0),hk.frozen _,(d.cell _).trans (QU e1),d.frozen _,(j.cell _).trans (QU e2),j.frozen _⟩
theorem fv (h:yb cs)(i:Nat){v:Value}(hv:∀k z,v≠.int k z):yb (cs.setIfInBounds i v):=by
 intro u hu;rw [QL] at hu;rcases xL hu with hu|rfl
 ·exact h u hu
 ·exact hv
theorem fJ (g i j k:Nat)(w:World)(x y z:Value):xg g w (((w.setCell ⟨g,i,none⟩ x).setCell ⟨g,j,none⟩ y).setCell ⟨g,k,none⟩ z):=(((xg.refl g w).set_ i x).set_ j y).set_ k z
theorem wH.set_ (hE:vU E){w:World}{t:TypeId}{g n:Nat}{xs:List α}(h:wH E w t g n xs){i:Nat}(hi:i<n){x:α}{b:Bool}{B:ze}{m d:Nat}{F:ze}{u v:Nat}(hx:E w x b B m d F u v):
  wH E (((w.setCell ⟨g,i*3,none⟩ (.bool b)).setCell ⟨g,i*3+1,none⟩ (.slice B m d)).setCell ⟨g,i*3+2,none⟩ (.slice F u v)) t g n (xs.set i x):=by
 obtain⟨cs,hk,h1,h2⟩:=h.blk;have ho:=yl.of_far (fJ g (i*3) (i*3+1) (i*3+2) w (.bool b) (.slice B m d) (.slice F u v));have a:=((hk.set_ (i*3) (.bool b)).set_ (i*3+1) (.slice B m d)).set_ (i*3+2) (.slice F u v);refine⟨by rw [QV];exact h.len,⟨_,a,?_,by simp;exact h2⟩,λj y hj=>?_⟩
 ·exact fv (fv (fv h1 _ (λ_ _ e=>by cases e)) _ (λ_ _ e=>by cases e)) _ (λ_ _ e=>by cases e)
 ·by_cases hij:i=j
  ·subst hij;have hl:=h.len;rw [XY za] at hj;injection hj with hj;subst hj;refine⟨b,B,m,d,F,u,v,?_,?_,?_,hE.offg hx hk h1 ho⟩
   ·rw [a.cell,qK za,qK za,QZ za]
   ·rw [a.cell,qK za,QZ (by simp;omega)]
   ·rw [a.cell,QZ (by simp;omega)]
  ·rw [XJ hij] at hj;obtain⟨b',B',m',d',F',u',v',c1,c2,c3,c4⟩:=h.num j y hj;refine⟨b',B',m',d',F',u',v',?_,?_,?_,hE.offg c4 hk h1 ho⟩
   ·rw [a.cell,qK za,qK za,qK za,<-hk.cell];exact c1
   ·rw [a.cell,qK za,qK za,qK za,<-hk.cell];exact c2
   ·rw [a.cell,qK za,qK za,qK za,<-hk.cell];exact c3
end
theorem jf (z:Array Value)(n j:Nat)(h:j<n):(madeCells z n)[j]?=some z[j%z.size]!:=by
 unfold madeCells;rw [Array.getElem?_map,QU (by simpa using h)];simp
def nF:Array Value:=#[.bool false,.slice none 0 0,.slice none 0 0]
theorem Me (n:Nat):yb (madeCells nF n):=by
 intro v hv k z e;rw [YZ,Array.mem_iff_getElem?] at hv;obtain⟨j,hj⟩:=hv;have a:j<n:=by
  have:=(Array.getElem?_eq_some_iff.1 hj).1;rwa [size_madeCells] at this
 rw [jf _ _ _ a] at hj;have h3:j%3=0\/j%3=1\/j%3=2:=za;rw [show nF.size=3 from rfl] at hj;subst e;rcases h3 with h3|h3|h3<;>rw [h3] at hj<;>simp [nF] at hj
theorem wH.made {α:Type}{E:El α}(w:World)(t:TypeId)(n:Nat)(z0:α)(hz:∀w',E w' z0 false none 0 0 none 0 0):wH E (w.alloc (.cells (madeCells nF (n*3)) t)) t w.heap.size n (List.replicate n z0):=by
 have hk:=zh.new w t (madeCells nF (n*3));refine⟨zG,⟨_,hk,Me _,size_madeCells _ _⟩,λi x hi=>?_⟩;have a:i<n:=by
  have:=(List.getElem?_eq_some_iff.1 hi).1;simpa using this
 obtain rfl:z0=x:=by
  rw [List.getElem?_replicate,if_pos a] at hi;injection hi
 have e0:(i*3)%3=0:=za;have e1:(i*3+1)%3=1:=za;have e2:(i*3+2)%3=2:=za;refine⟨false,none,0,0,none,0,0,?_,?_,?_,hz _⟩
 ·rw [hk.cell,jf _ _ _ za,show nF.size=3 from rfl,e0];rfl
 ·rw [hk.cell,jf _ _ _ za,show nF.size=3 from rfl,e1];rfl
 ·rw [hk.cell,jf _ _ _ za,show nF.size=3 from rfl,e2];rfl
def uJ {α:Type}(z0:α)(ys:List α)(n i:Nat):List α:=ys.take i++List.replicate (n - i) z0
theorem lZ {α:Type}(z0:α)(ys:List α)(n:Nat):uJ z0 ys n 0=List.replicate n z0:=by simp [uJ]
theorem ke {α:Type}(z0:α)(ys:List α)(n:Nat)(h:ys.length=n):uJ z0 ys n n=ys:=by simp [uJ,<-h]
theorem kf {α:Type}(z0:α)(ys:List α)(n i:Nat)(hl:ys.length=n)(hi:i<n)(y:α)(hy:ys[i]?=some y):(uJ z0 ys n i).set i y=uJ z0 ys n (i+1):=by
 unfold uJ;have a:i<ys.length:=za;have e:(ys.take i).length=i:=by rw [qL];omega
 rw [yN _ _ za,e,XG,qC a,xV];congr 1;obtain⟨m,hm⟩:∃m,n - i=m+1:=⟨n - i - 1,za⟩;have c:n - (i+1)=m:=za;rw [hm,c,List.replicate_succ];have hv:ys[i]=y:=by rw [qY a] at hy;injection hy
 rw [hv];rfl
theorem VA (w:World):zo w 0 none 0 0:=by
 refine⟨⟨by rw [show dg 18446744073709551616 0=[] from by rw [dg];rfl];rfl,λh=>absurd h zf⟩,qX _,zf⟩
theorem aA (w:World):zp w (0:Rat) false none 0 0 none 0 0:=⟨⟨rfl,VA w⟩,⟨0,⟨rfl,zf⟩,VA w⟩⟩
abbrev z7 (w:World)(A:ze)(n c:Nat)(xs:List Rat):Prop:=zZ zp w A n c xs
abbrev yn (w:World)(g n:Nat)(xs:List Rat):Prop:=wH zp w 54 g n xs
theorem z7.keep {w':World}(h:z7 w A n c xs)(hb:Below w.heap.size w w'):z7 w' A n c xs:=zZ.below yt h hb
theorem yn.keep {w':World}(h:yn w g n xs)(hb:Below w.heap.size w w'):yn w' g n xs:=wH.below yt h hb
def kv (w:World)(n:Nat)(xs:List Rat)(e:Ending)(w':World):Prop:=∃g,e=.returned (.slice (some ⟨g,0,none⟩) n n)/\w.heap.size<=g/\yn w' g n xs/\Below w.heap.size w w'
def oV (w:World)(n:Nat)(xs:List Rat)(e:Ending)(w':World):Prop:=∃g,e=.returned (.tuple #[.slice (some ⟨g,0,none⟩) n n,.bool true])/\w.heap.size<=g/\yn w' g n xs/\Below w.heap.size w w'
theorem pQ (w:World)(n:Nat):yn (w.alloc (.cells (madeCells nF (n*3)) 54)) w.heap.size n (List.replicate n 0):=wH.made w _ n 0 aA
theorem gm:(prog.info? 54).map (λi=>(i.zero,i.size,i.bytes))=some (some (.agg #[.bool false,.slice none 0 0,.slice none 0 0]),3,56):=zU
theorem cY (h:w.cell? (ad.add (k+1))=some v):w.cell? ⟨(ad.add k).block,(ad.add k).off+1,none⟩=some v:=by
 rw [<-jb] at h;exact h
theorem Sh (h:w.cell? (ad.add (k+2))=some v):w.cell? ⟨(ad.add k).block,(ad.add k).off+2,none⟩=some v:=by
 rw [<-jb] at h;exact h
theorem jo (n:Nat)(hn:n<=1099511627776):∃Z:Array Value,∀W:World,(Instr.makeSlice 58 (.int .i64 (n:Int)) (.int .i64 (n:Int))).run prog W=.ok (.slice (some ⟨W.heap.size,0,none⟩) n n) (W.alloc (.cells Z 54))/\yn (W.alloc (.cells Z 54)) W.heap.size n (List.replicate n 0):=by
 obtain⟨i0,a,c,d,g⟩:=info_parts gm;refine⟨madeCells nF (n*3),λW=>⟨?_,pQ W n⟩⟩;have h:=sV (P:=prog) _ _ i0 _ underlying58 a c .i64 .i64 n n (qX _) (by rw [g];omega) za W;rw [d] at h;exact h
theorem z7.get {wr:World}(h:z7 w A n c xs)(hb:Below w.heap.size w wr){i:Nat}(hi:i<n):∃(ad:Addr) (b:Bool) (B:ze) (m d:Nat) (F:ze) (u v:Nat),A=some ad/\ad.block<w.heap.size/\wr.cell? (ad.add (i*3))=some (.bool b)/\wr.cell? ⟨(ad.add (i*3)).block,(ad.add (i*3)).off+1,none⟩=some (.slice B m d)/\wr.cell? ⟨(ad.add (i*3)).block,(ad.add (i*3)).off+2,none⟩=some (.slice F u v)/\zp wr (xs.getD i 0) b B m d F u v:=by
 obtain⟨ad,b,B,m,d,F,u,v,e,h0,h1,h2,h3,h4⟩:=h.at_ hi 0;exact⟨ad,b,B,m,d,F,u,v,e,h0,zq hb h1,zq hb (cY h2),zq hb (Sh h3),h4.below hb⟩
theorem lk {k:Nat}(h:ad.block≠g):(ad.add k).block≠g:=by rw [yw];exact h
theorem dI {W:World}(i j k:Nat)(x y z:Value)(hg:w.heap.size<=g)(h:Below w.heap.size w W):Below w.heap.size w (((W.setCell ⟨g,i,none⟩ x).setCell ⟨g,j,none⟩ y).setCell ⟨g,k,none⟩ z):=zB z hg (zB y hg (zB x hg h))
def uT (_:TypeId)(cs:Array Value):Prop:=yb cs
def FN (x:Nat)(v:Value)(w:World):Prop:=∃(B:ze) (m d:Nat),v=.agg #[.slice B m d]/\zo w x B m d
def wT (x y:Nat)(v:Value)(w:World):Prop:=∃(B:ze) (m d:Nat) (C:ze) (n e:Nat),v=.tuple #[.agg #[.slice B m d],.agg #[.slice C n e]]/\zo w x B m d/\zo w y C n e
def FI (z:Int)(v:Value)(w:World):Prop:=∃(b:Bool) (A:ze) (n c:Nat),v=.agg #[.bool b,.slice A n c]/\z6 w z b A n c
def FQ (r:Rat)(v:Value)(w:World):Prop:=∃(b:Bool) (A:ze) (n c:Nat) (E:ze) (k f:Nat),v=.agg #[.bool b,.slice A n c,.slice E k f]/\zp w r b A n c E k f
def wU (r:Rat)(t:Bool)(v:Value)(w:World):Prop:=∃(b:Bool) (A:ze) (n c:Nat) (E:ze) (k f:Nat),v=.tuple #[.agg #[.bool b,.slice A n c,.slice E k f],.bool t]/\zp w r b A n c E k f
def FV (u v:Value)(w:World):Prop:=v=u
instance {B:TypeId->Array Value->Prop}(u:Value):Kf B (FV u):=⟨λ_ _ _ _ h=>h,λ_ _ _ _ _ _ _ _ _ h=>h⟩
instance (x:Nat):Kf uT (FN x):=⟨λv w w' hb ⟨B,m,d,e,h⟩=>⟨B,m,d,e,h.below hb⟩,λv w w' g t cs hB hk hf ⟨B,m,d,e,h⟩=>⟨B,m,d,e,jj h hk hB hf.1⟩⟩
instance (x y:Nat):Kf uT (wT x y):=⟨λv w w' hb ⟨B,m,d,C,n,f,e,h,h2⟩=>⟨B,m,d,C,n,f,e,h.below hb,h2.below hb⟩,λv w w' g t cs hB hk hf ⟨B,m,d,C,n,f,e,h,h2⟩=>⟨B,m,d,C,n,f,e,jj h hk hB hf.1,jj h2 hk hB hf.1⟩⟩
instance (z:Int):Kf uT (FI z):=⟨λv w w' hb ⟨b,A,n,c,e,h⟩=>⟨b,A,n,c,e,h.below hb⟩,λv w w' g t cs hB hk hf ⟨b,A,n,c,e,h⟩=>⟨b,A,n,c,e,Wo h hk hB hf.1⟩⟩
instance (r:Rat):Kf uT (FQ r):=⟨λv w w' hb ⟨b,A,n,c,E,k,f,e,h⟩=>⟨b,A,n,c,E,k,f,e,h.below hb⟩,λv w w' g t cs hB hk hf ⟨b,A,n,c,E,k,f,e,h⟩=>⟨b,A,n,c,E,k,f,e,fq h hk hB hf.1⟩⟩
instance (r:Rat)(u:Bool):Kf uT (wU r u):=⟨λv w w' hb ⟨b,A,n,c,E,k,f,e,h⟩=>⟨b,A,n,c,E,k,f,e,h.below hb⟩,λv w w' g t cs hB hk hf ⟨b,A,n,c,E,k,f,e,h⟩=>⟨b,A,n,c,E,k,f,e,fq h hk hB hf.1⟩⟩
theorem wT.l {y:Nat}:∀v w,wT x y v w->∃vs u,v=.tuple vs/\vs[0]?=some u/\FN x u w:=λv w ⟨B,m,d,C,n,f,e,h,h2⟩=>⟨_,_,e,rfl,B,m,d,rfl,h⟩
theorem wT.r {y:Nat}:∀v w,wT x y v w->∃vs u,v=.tuple vs/\vs[1]?=some u/\FN y u w:=λv w ⟨B,m,d,C,n,f,e,h,h2⟩=>⟨_,_,e,rfl,C,n,f,rfl,h2⟩
theorem wU.l {r:Rat}{t:Bool}:∀v w,wU r t v w->∃vs u,v=.tuple vs/\vs[0]?=some u/\FQ r u w:=λv w ⟨b,A,n,c,E,k,f,e,h⟩=>⟨_,_,e,rfl,b,A,n,c,E,k,f,rfl,h⟩
theorem wU.r {r:Rat}{t:Bool}:∀v w,wU r t v w->∃vs u,v=.tuple vs/\vs[1]?=some u/\FV (.bool t) u w:=λv w ⟨b,A,n,c,E,k,f,e,h⟩=>⟨_,_,e,rfl,rfl⟩
