/- What this claim leans on. -/
import Derived.Test.YtipmllfnpldbdaaGreatDoorFJ8Add
set_option linter.unusedVariables false
set_option linter.unusedSimpArgs false
namespace Go.Proofs.YtipmllfnpldbdaaGreatDoor
open Go Go.RowKit Go.Proofs.Tryz
set_option maxHeartbeats 16000000
variable {ad:Addr}{p:Int}{xs ys:List Rat}{K K' c g k n:Nat}{x y:Rat}{t:TypeId}{v:Value}{w:World}{A:zf}
def ub (p q:Int):Rat:=Rat.divInt p (if q=0 then 1 else q)
theorem sf (p:Int):ub p 0=(p:Rat):=by
 unfold ub;rw [if_pos rfl];exact Rat.ext (by rw [Rat.num_divInt,yP];simp) (by rw [Rat.den_divInt,yO];simp)
theorem ng {q:Int}(h:q≠0):ub p q=Rat.divInt p q:=by unfold ub;rw [if_neg h]
theorem vP {z:Int}(h1: -9223372036854775808<=z)(h2:z<=9223372036854775807):Sz 1 z.natAbs:=by
 show z.natAbs<18446744073709551616^1;rw [Nat.pow_one];omega
theorem se {q:Int}(a: -9223372036854775808<=p)(d:p<=9223372036854775807)(g: -9223372036854775808<=q)(h:q<=9223372036854775807):zp 1 (ub p q):=by
 unfold ub;refine zp.made (vP a d) ?_ zh
 split
 ·exact vP zh zh
 ·exact vP g h
def ul (rs:List Rat):Rat:=rs.foldl (λa b=>a+b) 0
theorem WK (rs:List Rat)(a:Rat):rs.foldl (λa b=>a+b) a=a+ul rs:=by
 unfold ul
 induction rs generalizing a with
 |nil=>exact(YB a).symm
 |cons r t ih=>
   rw [List.foldl_cons,List.foldl_cons,ih (a+r),ih (0+r),YA,Rat.add_assoc]
theorem eX:ul []=0:=rfl
theorem jT (r:Rat)(rs:List Rat):ul (r::rs)=r+ul rs:=by
 show(r::rs).foldl (λa b=>a+b) 0=_;rw [List.foldl_cons,WK,YA]
def xF (xs ys:List Rat):Rat:=ul (List.zipWith (λa b=>a*b) xs ys)
def jp (xs ys:List Rat):List Rat:=List.zipWith (λa b=>a+b) xs ys
def ni (xs ys:List Rat):List Rat:=List.zipWith (λa b=>a - b) xs ys
def lf (xs ys:List Rat):List Rat:=List.zipWith (λa b=>a*b) xs ys
theorem bD {f:Rat->Rat->Rat}(h:xs.length=n)(k:ys.length=n):(List.zipWith f xs ys).length=n:=by rw [List.length_zipWith,h,k,Nat.min_self]
def wK:List Rat->List Rat->Int
 |[],[]=>0
 |[],_::_=> -1
 |_::_,[]=>1
 |x::xs,y::ys=>if x=y then wK xs ys else xp x y
theorem rU (h:x≠y):xp x y≠0:=λe=>h ((rT x y).1 e)
theorem iB:∀(xs ys:List Rat),wK xs ys=0↔xs=ys
 |[],[]=>by simp [wK]
 |[],_::_=>by simp [wK]
 |_::_,[]=>by simp [wK]
 |x::xs,y::ys=>by
   unfold wK;by_cases h:x=y
   ·rw [if_pos h,iB xs ys,h];simp
   ·rw [if_neg h];constructor
    ·intro e;exact absurd e (rU h)
    ·intro e;injection e with e1 e2;exact absurd e1 h
theorem Wv (h:x=y):wK (x::xs) (y::ys)=wK xs ys:=by
 show(if x=y then wK xs ys else xp x y)=_;exact if_pos h
theorem YE (h:x≠y):wK (x::xs) (y::ys)=xp x y:=by
 show(if x=y then wK xs ys else xp x y)=_;exact if_neg h
theorem ml {xs:List Rat}(h:k<xs.length):xs.drop k=xs.getD k 0::xs.drop (k+1):=by
 rw [xW h,qQ,qZ h];rfl
theorem aP (hx:k<xs.length)(hy:k<ys.length)(h:xs.getD k 0=ys.getD k 0):wK (xs.drop k) (ys.drop k)=wK (xs.drop (k+1)) (ys.drop (k+1)):=by
 rw [ml hx,ml hy,Wv h]
theorem aS (hx:k<xs.length)(hy:k<ys.length)(h:xs.getD k 0≠ys.getD k 0):wK (xs.drop k) (ys.drop k)=xp (xs.getD k 0) (ys.getD k 0):=by
 rw [ml hx,ml hy,YE h]
def u7 (a b:Nat):Int:=if a<b then -1 else if a=b then 0 else 1
theorem tc (hk:k=min xs.length ys.length):wK (xs.drop k) (ys.drop k)=u7 xs.length ys.length:=by
 unfold u7;by_cases h1:xs.length<ys.length
 ·rw [if_pos h1,xZ za,ml (xs:=ys) za];rfl
 ·rw [if_neg h1];by_cases h2:xs.length=ys.length
  ·rw [if_pos h2,xZ za,xZ za];rfl
  ·rw [if_neg h2,xZ (l:=ys) za,ml (xs:=xs) za];rfl
def ru (xs:List Rat):Bool:=xs.any λx=>decide (x.num<0)
theorem Zk (xs:List Rat)(k:Nat)(h:k<xs.length):ru (xs.take (k+1))=(ru (xs.take k)||decide ((xs.getD k 0).num<0)):=by
 unfold ru;rw [QY h,List.any_append,qQ,qZ h];simp
def zH (K:Nat)(xs:List Rat):Prop:=∀x ∈ xs,zp K x
theorem zH.at_ (h:zH K xs){k:Nat}(hk:k<xs.length):zp K (xs.getD k 0):=by
 rw [qQ,qZ hk];exact h _ (xE hk)
theorem zH.up (h:zH K xs)(e:K<=K'):zH K' xs:=λx hx=>(h x hx).up e
theorem zH.zip {K K' L:Nat}{f:Rat->Rat->Rat}(hf:∀x y,zp K x->zp K' y->zp L (f x y)):∀{xs ys:List Rat},zH K xs->zH K' ys->zH L (List.zipWith f xs ys)
 |[],_,_,_=>λx hx=>by cases hx
 |_::_,[],_,_=>λx hx=>by cases hx
 |x::xs,y::ys,h,k=>λz hz=>by
   rw [List.zipWith_cons_cons] at hz;rcases List.mem_cons.1 hz with rfl|hz
   ·exact hf x y (h x yV) (k y yV)
   ·exact zH.zip hf (λa ha=>h a (yE _ ha)) (λa ha=>k a (yE _ ha)) z hz
theorem zH.add (h:zH K xs)(k:zH K' ys):zH (K+K'+1) (jp xs ys):=zH.zip (λ_ _=>zp.add) h k
theorem zH.sub (h:zH K xs)(k:zH K' ys):zH (K+K'+1) (ni xs ys):=zH.zip (λ_ _=>zp.sub) h k
theorem zH.mul (h:zH K xs)(k:zH K' ys):zH (K+K') (lf xs ys):=zH.zip (λ_ _=>zp.mul) h k
theorem iT {K:Nat}:∀{xs:List Rat},zH K xs->zp (1+xs.length*(K+1)) (ul xs)
 |[],_=>by rw [YY,Nat.zero_mul];exact zp.zero
 |x::xs,h=>by
   rw [jT];exact((h x yV).add (iT λa ha=>h a (yE _ ha))).up (by rw [xX,Nat.succ_mul];omega)
theorem pB (h:zH K xs)(hl:xs.length=n)(k:Nat)(hk:k<=n):zp (1+n*(K+1)) (ul (xs.take k)):=by
 have h1:=iT (xs:=xs.take k) (K:=K) (λa ha=>h a (XJ ha));refine h1.up ?_;rw [QX];have:min k xs.length*(K+1)<=n*(K+1):=QJ _ za;omega
theorem lU {n:Nat}(hx:xs.length=n)(hy:ys.length=n)(h:zH K xs)(k:zH K' ys):zp (1+n*(K+K'+1)) (xF xs ys):=by
 have:=iT (zH.mul h k);rw [show(lf xs ys).length=n from bD hx hy] at this;exact this
set_option maxRecDepth 100000
structure lS (w:World)(A:zf)(n c:Nat)(rs:List Rat):Prop where
 len:rs.length=n
 fits:n<=c
 most:c<=9223372036854775807
 num:∀i,i<n->∃(ad:Addr) (b:Bool) (B:zf) (m d:Nat) (E:zf) (u v:Nat),A=some ad/\ad.block<w.heap.size/\w.cell? (ad.add (i*3))=some (.bool b)/\w.cell? (ad.add (i*3+1))=some (.slice B m d)/\w.cell? (ad.add (i*3+2))=some (.slice E u v)/\zt w (rs.getD i 0) b B m d E u v
theorem lS.below {w':World}{rs:List Rat}(h:lS w A n c rs)(hb:Below w.heap.size w w'):lS w' A n c rs:=
 ⟨h.len,h.fits,h.most,λi hi=>by
  obtain⟨ad,b,B,m,d,E,u,v,e,h1,h2,h3,h4,h5⟩:=h.num i hi;exact⟨ad,b,B,m,d,E,u,v,e,qJ h1 hb.size,zq hb h2,zq hb h3,zq hb h4,h5.below hb⟩⟩
def uG (rs:List Rat):Rat:=rs.foldl (λa b=>a+b) 0
theorem Vc (rs:List Rat)(r:Rat):uG (rs++[r])=uG rs+r:=by unfold uG;rw [List.foldl_append];rfl
theorem Vd (rs:List Rat)(k:Nat)(h:k<rs.length):uG (rs.take (k+1))=uG (rs.take k)+rs.getD k 0:=by
 rw [QY h,Vc,qQ,qZ h];rfl
theorem Yl {r:Rat}{b:Bool}{E:zf}{f:Nat}{p:Bool}{q q2:zf}{r1 s r2 s2:Nat}(h:zt w r b A n c E k f)(kd:zi w g t #[.bool p,.slice q r1 s,.slice q2 r2 s2])(x y z:Value):
  zt (((w.setCell ⟨g,0,none⟩ x).setCell ⟨g,1,none⟩ y).setCell ⟨g,2,none⟩ z) r b A n c E k f:=pO h kd (ye.s3 _ _ _ _ _ _ _) (wV _ _ _ _ _)
theorem uZ {g':Nat}{cs:Array Value}(h:zi w g t cs)(a:g≠g')(x y z:Value):zi (((w.setCell ⟨g',0,none⟩ x).setCell ⟨g',1,none⟩ y).setCell ⟨g',2,none⟩ z) g t cs:=((h.far (p:=⟨g',0,none⟩) a x).far (p:=⟨g',1,none⟩) a y).far (p:=⟨g',2,none⟩) a z
theorem rQ (h:w.cell? (ad.add (k+1))=some v):w.cell? ⟨(ad.add k).block,(ad.add k).off+1,none⟩=some v:=by
 rw [<-Go.Deep.add_add] at h;exact h
theorem rR (h:w.cell? (ad.add (k+2))=some v):w.cell? ⟨(ad.add k).block,(ad.add k).off+2,none⟩=some v:=by
 rw [<-Go.Deep.add_add] at h;exact h
theorem pk (rs:List Rat)(A:zf)(n c K:Nat)(w:World)(hT:zu w)(h:lS w A n c rs)(hn:n<=1073741824)(hK:K<=67108864)(he:∀i,i<n->zp K (rs.getD i 0))(hs:∀k,k<=n->zp K (uG (rs.take k))):
  Calls prog 55 #[.slice A n c] w (yc w (uG rs)):=by
 have G:=zm w (λw' h=>hT.on h);have HN:=zm w (λw' hb=>h.below hb);have HS:=zd hs;have HE:=zd he;have F:=zd (λk (hk:k<n)=>Vd rs k (by rw [h.len];exact hk));have HF:zg (uG (rs.take n)=uG rs):=by
  show _=_;rw [qU (by rw [h.len];exact qX _)]
 clear h hs he hT;go_enter func55,ntmps55;go_wp2_with fail;obtain⟨hB,a,hp,b5⟩:=ya w 60 60 #[.bool false,.slice none 0 0,.slice none 0 0] #[.bool false,.slice none 0 0,.slice none 0 0];generalize hV:(w.alloc (.cells #[.bool false,.slice none 0 0,.slice none 0 0] 60)).alloc (.cells #[.bool false,.slice none 0 0,.slice none 0 0] 60)=V1 at*;clear hV b5;obtain⟨gp,D⟩:∃g,w.heap.size+1=g:=⟨_,rfl⟩;rw [D] at hp⊢;have hgw:w.heap.size<gp:=za
 go_loopg [9] (n+1) (λg ix wr=>∃(k:Nat) (b:Bool) (Ap:zf) (np cp:Nat) (Ep:zf) (kp fp:Nat),k<=n/\n<g+k/\ix=.int .i64 k/\zt wr (uG (rs.take k)) b Ap np cp Ep kp fp/\zi wr gp 60 #[.bool b,.slice Ap np cp,.slice Ep kp fp]/\Below w.heap.size w wr/\zi wr w.heap.size 60 #[.bool false,.slice none 0 0,.slice none 0 0])
 case atStart=>exact⟨0,false,none,0,0,none,0,0,QE _,za,rfl,jN _,hp,hB,a⟩
 case round=>
  clear hp hB a D;obtain⟨k,b,Ap,np,cp,Ep,kp,fp,t,hg,rfl,hw,hp,hB,a⟩:=hrel;by_cases hlt:k<n
  ·obtain⟨ad,b1,B1,m1,d1,E1,u1,v1,rfl,hadb,I,j,m,hx⟩:=(HN.o _ hB).num k hlt;have HM:=zm wr (λw' hb=>jf (uG (rs.take k)) (rs.getD k 0) b Ap np cp Ep kp fp b1 B1 m1 d1 E1 u1 v1 w' (G.o _ (ze hB hb)) (hw.below hb) (hx.below hb) (zp.fit (HS.o k t) hw hK) (zp.fit (HE.o k hlt) hx hK));have j:=rQ j;have m:=rR m;have i1:(0:Int)<=(k:Int):=za;have i2:(k:Int)<(n:Int):=za;obtain⟨p0,p1,p2⟩:=hp.c3;obtain⟨st,d2,d3⟩:=zF wr 60 #[.bool b1,.slice B1 m1 d1,.slice E1 u1 v1];obtain⟨q0,q1,q2⟩:=d2.c3;have p3:=zq st p0;have p4:=zq st p1;have p5:=zq st p2;have z:=zd (HM.o _ st);have x:=zd (ze hB st);have B:=zd (zj st hp);have y:=zd (zj st a);clear hw hx hB hp a HM st d2 d3;go_wp2_with fail;refine z.o.mono ?_;rintro e w3 ⟨b3,A3,n3,c3,E3,k3,f3,rfl,u,hb⟩;rw [<-F.o k hlt] at u;have C:=ze x.o hb;have d:=zj hb B.o;have E:=zj hb y.o;obtain⟨N,Q,O,R,P,S⟩:=yg d (.bool b3) (.slice A3 n3 c3);have M:=Yl u d (.bool b3) (.slice A3 n3 c3) (.slice E3 k3 f3);have H:=v8 (.bool b3) (.slice A3 n3 c3) (.slice E3 k3 f3) (by show w.heap.size<=gp;omega) C;have L:=yf d (.bool b3) (.slice A3 n3 c3) (.slice E3 k3 f3);have J:=uZ E (by show w.heap.size≠gp;omega) (.bool b3) (.slice A3 n3 c3) (.slice E3 k3 f3);clear hb C d E u z x B y I j m p0 p1 p2 p3 p4 p5 q0 q1 q2;go_wp2;go_roundg (n - k)
   case measure=>omega
   case rel=>exact⟨k+1,b3,A3,n3,c3,E3,k3,f3,za,za,by go_num,M,L,H,J⟩
  ·have t:k=n:=za;subst t;rw [HF.o] at hw;obtain⟨p0,p1,p2⟩:=hp.c3;obtain⟨N,Q,O,R,P,S⟩:=yg a (.bool b) (.slice Ap np cp);obtain⟨r0,r1,r2⟩:=(yf a (.bool b) (.slice Ap np cp) (.slice Ep kp fp)).c3;have HG:=zd (xu hw a hB (qX _));clear hw hp a hB;go_wp2;refine bodyPost_ret (v:=.agg #[.bool b,.slice Ap np cp,.slice Ep kp fp]) (by simp [results,results55,go_sem,r0,r1,r2]) rfl ?_;exact HG.o
