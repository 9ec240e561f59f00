/- What this claim leans on. -/
import Derived.Test.YtielpgdebeggbaaGreatDoorMBunI
import Derived.Deep.Slices
set_option linter.unusedVariables false
set_option linter.unusedSimpArgs false
namespace Go.Proofs.YtielpgdebeggbaaGreatDoor
open Go Go.RowKit Go.Proofs.Tryz
set_option maxHeartbeats 16000000
set_option maxRecDepth 100000
variable {b:Bool}{t z:Int}{K c f k n x y:Nat}{a:Rat}{w:World}{A E:ze}
theorem Vb (f:Rat->Rat->Rat)(F:FuncId)(cap:Array Value)(xs ys:List Rat)(A B:ze)(n c d:Nat)(w:World)(ha:zR w A n c xs)(hb:zR w B n d ys)(hn:n<=1073741824)
  (hEn:∀(args:Array Value) (w':World),Sem.run prog (callFunc F args) w'=.ok (.enter F args) w')
  (hF : ∀ i,i < n → ∀ w',Below w.heap.size w w' → ∀ (b b' : Bool) (A A' : ze) (n n' c c' : Nat) (E E' : ze) (k k' f9 G : Nat),zo w' (xs.getD i 0) b A n c E k f9 → zo w' (ys.getD i 0) b' A' n' c' E' k' G →
    Calls prog F (#[.agg #[.bool b,.slice A n c,.slice E k f9],.agg #[.bool b',.slice A' n' c',.slice E' k' G]]++cap) w' (yj w' (f (xs.getD i 0) (ys.getD i 0)))):
  Calls prog 62 #[.slice A n c,.slice B n d,.func (.func F) #[] cap] w (tj w n (List.zipWith f xs ys)):=by
 have M:=ha.len;have N:=hb.len;have u:(List.zipWith f xs ys).length=n:=TT M N;unfold tj;have s:∀i,i<n->(List.zipWith f xs ys)[i]?=some (f (xs.getD i 0) (ys.getD i 0)):=λi hi=>by
  rw [List.getElem?_zipWith,qQ,qQ,qY za,qY za];rfl
 obtain⟨zs,Q⟩:∃zs,List.zipWith f xs ys=zs:=⟨_,rfl⟩;rw [Q] at s u⊢;have HG:=zb s;have D:=zb u;have HF:=zb hF;have HA:=zb ha;have S:=zb hb;obtain⟨Z,hZ⟩:=nA n za;have aa:=λW=>(hZ W).1;have m:=zb (λW=>(hZ W).2);clear hF ha hb M N u Q s hZ;have hd0:((n:Int) !=(n:Int))=false:=zF;have i0:(0:Int)<=(n:Int):=za;go_enter func62,ntmps62;go_wp2_with fail;clear aa;have a:=m.o w;have hB:Below w.heap.size w (w.alloc (.cells Z 52)):=(qZ _ w).alloc (qX _) _;obtain⟨gp,t⟩:∃g,w.heap.size=g:=⟨_,rfl⟩;have P:w.heap.size<=gp:=za;have hz:gp+1<=(w.alloc (.cells Z 52)).heap.size:=by simp [t]
 rw [t] at a⊢;rw [<-sV 0 zs n] at a;generalize w.alloc (.cells Z 52)=W1 at*;clear t m
 go_loopg [21] (n+1) (λg ix wr=>∃(k:Nat),k<=n/\n<g+k/\ix=.int .i64 k/\yf wr gp n (vC 0 zs n k)/\Below w.heap.size w wr)
 case atStart=>exact⟨0,qM _,za,rfl,a,hB⟩
 case round=>
  clear a hB hz;obtain⟨k,hkn,hg,rfl,a,hB⟩:=hrel;by_cases hlt:k<n
  ·obtain⟨ad,b1,B1,m1,d1,E1,u1,v1,rfl,-,U,V,X,hx⟩:=HA.o.get hB hlt;obtain⟨ae,b2,B2,m2,d2,E2,u2,v2,rfl,hae,I,J,L,hy⟩:=S.o.get hB hlt;have Y:decide ((k:Int)<(n:Int))=true:=by simp;omega
   have i1:(0:Int)<=(k:Int):=za;have i2:(k:Int)<(n:Int):=za;have hgr:=a.lt;obtain⟨st,d3,d4⟩:=zA wr 52 #[.bool b1,.slice B1 m1 d1,.slice E1 u1 v1];have C:=zb d3;have HX:=zb (hx.below st);have HY:=zb (hy.below st);have o:=zb (a.keep st);have j:=zb (zc hB st);have HE:=zb (And.intro (zw st I) (And.intro (zw st J) (zw st L)));clear hx hy a hB st d3 d4 I J L;go_wp2_with fail;clear U V X;generalize wr.alloc (.cells #[.bool b1,.slice B1 m1 d1,.slice E1 u1 v1] 52)=W2 at*;generalize wr.heap.size=gb at*;obtain⟨p0,p1,p2⟩:=C.o.c3;obtain⟨e0,e1,e2⟩:=HE.o;have h:=(qZ W2.heap.size W2).drew;have v:=aD (k:=k*3) (show ae.block≠gp by omega);refine rg (zj p0 (zj p1 (zj p2 (zj e0 (zj e1 (zj e2 zO)))))) (λhHeld=>?_);refine tk 0 ?_;refine tk 1 ?_;refine tk 2 ?_;refine tk 3 ?_;refine tk 4 ?_;refine tk 5 ?_;refine tk 6 ?_;refine tk 7 ?_;refine rc 8 (λK hK=>?_);go_simp;refine(HF.o k hlt _ (zc j.o h) _ _ _ _ _ _ _ _ _ _ _ _ _ _ (HX.o.below h) (HY.o.below h)).mono ?_;rintro e w3 ⟨b3,A3,n3,c3,E3,k3,f3,rfl,O,hb⟩;have h:=zc h hb;refine hK.out _ _ (Cs.below hHeld hb) (λhHeld=>?_);clear hK K hb;refine tk 9 ?_;have y:=o.o.keep h;obtain⟨q0,q1,q2,ab,ag,ac,ah,af,ai⟩:=y.ready hlt (.bool b3) (.slice A3 n3 c3);refine rc 10 (λK hK=>?_);go_simp;have z:=wC.set_ z6 y hlt O;rw [sR 0 zs n k D.o hlt _ (HG.o k hlt)] at z;have H:=jE (k*3) (k*3+1) (k*3+2) (.bool b3) (.slice A3 n3 c3) (.slice E3 k3 f3) P (zc j.o h);refine hK.out _ _ (Cs.far hHeld (dM _ _ _ _ _ _ _ _) (by refine⟨?_,?_,?_,v,v,v,trivial⟩<;>(show gb≠gp;omega))) (λhHeld=>?_);clear hK K;refine zV ?_;have T:=zb z;have R:=zb H;clear z H y hHeld h O ab ag ac ah af ai p0 p1 p2 e0 e1 e2 C HX HY o j HE;go_wp2;go_roundg (n - k)
   case measure=>omega
   case rel=>exact⟨k+1,za,za,by go_num,T.o,R.o⟩
  ·have hk:k=n:=za;subst hk;have Y:decide ((k:Int)<(k:Int))=false:=zF;have HR:=zb (sQ 0 zs k D.o▸a);have j:=zb hB;clear a hB;go_wp2
   go_ret2
   exact⟨gp,rfl,P,HR.o,j.o⟩
theorem Ti {r:Rat}{d:Nat}(hd:d≠0)(hc:Nat.gcd t.natAbs d=1)(h:r=Rat.divInt t d):r.num=t/\r.den=d:=by
 have e:(⟨t,d,hd,hc⟩:Rat)=Rat.divInt t d:=Rat.mk_eq_divInt;rw [<-e] at h;subst h;exact⟨rfl,rfl⟩
theorem Z9 (t:Int)(h:Nat)(hd:h ∣ t.natAbs):t=(h:Int)*z4 (decide (t<0)) (t.natAbs / h):=by
 obtain⟨k,hk⟩:=hd;by_cases h0:h=0
 ·subst h0;rw [Nat.zero_mul] at hk;have:t=0:=Int.natAbs_eq_zero.1 hk;subst this;simp
 have e:t.natAbs / h=k:=by rw [hk];exact XS _ (xI h0)
 rw [e];unfold z4;by_cases ht:t<0
 ·rw [decide_eq_true ht,if_pos rfl,Int.mul_neg,<-QT,<-hk];omega
 ·rw [decide_eq_false ht,if_neg zf,<-QT,<-hk];omega
theorem od (s u:Bool)(x y:Nat):z4 s x*z4 u y=z4 (s !=u) (x*y):=by
 cases s<;>cases u<;>simp [z4,QT,Int.neg_mul,Int.mul_neg]
theorem Oa {p1 p2:Int}{q1 mA mB:Nat}(hc:Nat.gcd p1.natAbs q1=1)(hA:mA ∣ q1)(hm:Nat.gcd mA mB=1)(ht:t=p1*mB+p2*mA):Nat.gcd t.natAbs mA=1:=by
 refine Nat.dvd_one.1 ?_;have h1:Nat.gcd t.natAbs mA ∣ mA:=XT _ _;have h2:Nat.gcd t.natAbs mA ∣ t.natAbs:=yU _ _;generalize Nat.gcd t.natAbs mA=d at*;have h3:(d:Int)∣ p1*mB:=by
  have a:=Int.ofNat_dvd_left.2 h2;have b:(d:Int)∣ p2*mA:=Int.dvd_trans (Int.ofNat_dvd.2 h1) (Int.dvd_mul_left _ _);have c:=Int.dvd_sub a b;rw [ht,Int.add_sub_cancel] at c;exact c
 have h4:d ∣ p1.natAbs*mB:=by
  have:=Int.ofNat_dvd_left.1 h3;rwa [xS,yN] at this
 have h5:Nat.Coprime d mB:=YK h1 hm;have h6:d ∣ p1.natAbs:=h5.dvd_of_dvd_mul_right h4;have h7:=Nat.dvd_gcd h6 (Nat.dvd_trans h1 hA);rwa [hc] at h7
theorem Ou (a b:Rat){mA mB:Nat}{t:Int}(hA:mA=a.den / Nat.gcd a.den b.den)(hB:mB=b.den / Nat.gcd a.den b.den)(ht:t=a.num*mB+b.num*mA):
  (a+b).num=z4 (decide (t<0)) (t.natAbs / Nat.gcd t.natAbs b.den)/\(a+b).den=mA*(b.den / Nat.gcd t.natAbs b.den):=by
 have g0:0<Nat.gcd a.den b.den:=Nat.gcd_pos_of_pos_left _ (xI a.den_nz);have k0:0<Nat.gcd t.natAbs b.den:=Nat.gcd_pos_of_pos_right _ (xI b.den_nz);have ea:Nat.gcd a.den b.den*mA=a.den:=by rw [hA];exact YU (yU _ _)
 have eb:Nat.gcd a.den b.den*mB=b.den:=by rw [hB];exact YU (XT _ _)
 have hm:Nat.gcd mA mB=1:=by rw [hA,hB];exact Nat.gcd_div_gcd_div_gcd_of_pos_left (xI a.den_nz)
 have hp:Nat.gcd t.natAbs mA=1:=Oa a.reduced ⟨_,(QK mA _▸ea).symm⟩ hm ht;have eh:Nat.gcd t.natAbs b.den*(b.den / Nat.gcd t.natAbs b.den)=b.den:=YU (XT _ _);have et:=Z9 t (Nat.gcd t.natAbs b.den) (yU _ _);have hq:Nat.gcd (t.natAbs / Nat.gcd t.natAbs b.den) (b.den / Nat.gcd t.natAbs b.den)=1:=YV (xI b.den_nz);have d:mA≠0:=λh=>a.den_nz (by rw [<-ea,h];rfl);have r0:b.den / Nat.gcd t.natAbs b.den≠0:=λh=>b.den_nz (by rw [<-eh,h];rfl);refine Ti (Nat.mul_ne_zero d r0) ?_ ?_
 ·rw [jT];refine Nat.Coprime.mul_right ?_ hq;exact YK (Nat.div_dvd_of_dvd (yU _ _)) hp
 ·have e1:a+b=Rat.divInt (a.num*b.den+b.num*a.den) ((a.den*b.den:Nat):Int):=by rw [Rat.add_def'];rfl
  have e2:a.num*(b.den:Int)+b.num*(a.den:Int)=(Nat.gcd a.den b.den:Int)*t:=by
   rw [ht];generalize Nat.gcd a.den b.den=g at*;rw [<-eb,<-ea,QT,QT,Int.mul_add,Int.mul_left_comm,Int.mul_left_comm b.num]
  have e3:((a.den*b.den:Nat):Int)=(Nat.gcd a.den b.den:Int)*((mA*b.den:Nat):Int):=by
   generalize Nat.gcd a.den b.den=g at*;rw [<-ea,qL,QT]
  rw [e1,e2,e3,Rat.divInt_mul_left za];generalize Nat.gcd t.natAbs b.den=h at*;have e4:((mA*b.den:Nat):Int)=(h:Int)*((mA*(b.den / h):Nat):Int):=by
   conv=>lhs;rw [<-eh]
   rw [Nat.mul_left_comm,QT]
  rw [e4]
  conv=>lhs;rw [et]
  exact Rat.divInt_mul_left za
theorem Ow (a b:Rat):(a*b).num=z4 (decide (a.num<0) !=decide (b.num<0)) (a.num.natAbs / Nat.gcd a.num.natAbs b.den*(b.num.natAbs / Nat.gcd b.num.natAbs a.den))/\
  (a*b).den=a.den / Nat.gcd b.num.natAbs a.den*(b.den / Nat.gcd a.num.natAbs b.den):=by
 have g0:0<Nat.gcd a.num.natAbs b.den:=Nat.gcd_pos_of_pos_right _ (xI b.den_nz);have k0:0<Nat.gcd b.num.natAbs a.den:=Nat.gcd_pos_of_pos_right _ (xI a.den_nz);have ea:Nat.gcd b.num.natAbs a.den*(a.den / Nat.gcd b.num.natAbs a.den)=a.den:=YU (XT _ _);have eb:Nat.gcd a.num.natAbs b.den*(b.den / Nat.gcd a.num.natAbs b.den)=b.den:=YU (XT _ _);have ta:=Z9 a.num _ (yU a.num.natAbs b.den);have tb:=Z9 b.num _ (yU b.num.natAbs a.den);have c1:Nat.Coprime (a.num.natAbs / Nat.gcd a.num.natAbs b.den) (b.den / Nat.gcd a.num.natAbs b.den):=YV (xI b.den_nz);have c2:Nat.Coprime (b.num.natAbs / Nat.gcd b.num.natAbs a.den) (a.den / Nat.gcd b.num.natAbs a.den):=YV (xI a.den_nz);have c3 : Nat.Coprime (a.num.natAbs / Nat.gcd a.num.natAbs b.den) (a.den / Nat.gcd b.num.natAbs a.den) :=
  YK (Nat.div_dvd_of_dvd (yU _ _)) (Nat.Coprime.coprime_dvd_right (Nat.div_dvd_of_dvd (XT _ _)) a.reduced)
 have c4 : Nat.Coprime (b.num.natAbs / Nat.gcd b.num.natAbs a.den) (b.den / Nat.gcd a.num.natAbs b.den) :=
  YK (Nat.div_dvd_of_dvd (yU _ _)) (Nat.Coprime.coprime_dvd_right (Nat.div_dvd_of_dvd (XT _ _)) b.reduced)
 refine Ti (λh=>?_) ?_ ?_
 ·rcases Nat.mul_eq_zero.1 h with h|h
  ·rw [h] at ea;exact a.den_nz ea.symm
  ·rw [h] at eb;exact b.den_nz eb.symm
 ·rw [jT];exact Nat.Coprime.mul_right (Nat.Coprime.mul_left c3 c2) (Nat.Coprime.mul_left c1 c4)
 ·have e1:a*b=Rat.divInt (a.num*b.num) ((a.den*b.den:Nat):Int):=by rw [Rat.mul_def'];rfl
  rw [e1,<-od];generalize a.num.natAbs / Nat.gcd a.num.natAbs b.den=x1 at*;generalize b.num.natAbs / Nat.gcd b.num.natAbs a.den=x2 at*;generalize b.den / Nat.gcd a.num.natAbs b.den=y2 at*;generalize a.den / Nat.gcd b.num.natAbs a.den=y1 at*;generalize Nat.gcd a.num.natAbs b.den=g at*;generalize Nat.gcd b.num.natAbs a.den=k at*;generalize z4 (decide (a.num<0)) x1=u1 at*;generalize z4 (decide (b.num<0)) x2=u2 at*;have e2:a.num*b.num=((g*k:Nat):Int)*(u1*u2):=by
   rw [ta,tb,QT];simp only [Int.mul_assoc,Int.mul_left_comm]
  have e3:((a.den*b.den:Nat):Int)=((g*k:Nat):Int)*((y1*y2:Nat):Int):=by
   rw [<-ea,<-eb,<-QT];congr 1;simp only [Nat.mul_left_comm,QK]
  rw [e2,e3];exact Rat.divInt_mul_left (by have:=Nat.mul_pos g0 k0;omega)
theorem Ov (a:Rat)(h:a≠0):(a⁻¹).num=z4 (decide (a.num<0)) a.den/\(a⁻¹).den=a.num.natAbs:=by
 have hn:a.num≠0:=λe=>h (Rat.num_eq_zero.1 e);constructor
 ·rw [Rat.num_inv];unfold z4;rcases Int.lt_or_gt_of_ne hn with h1|h1
  ·rw [Int.sign_eq_neg_one_of_neg h1,decide_eq_true h1,if_pos rfl];omega
  ·rw [Int.sign_eq_one_of_pos h1,decide_eq_false za,if_neg zf];omega
 ·rw [Rat.den_inv,if_neg hn]
theorem Ox (a:Rat):(-a).num=z4 (!decide (a.num<0)) a.num.natAbs/\(-a).den=a.den:=by
 refine⟨?_,rfl⟩;rw [Rat.neg_num];unfold z4;by_cases h:a.num<0
 ·simp [h];omega
 ·simp [h];omega
theorem OF {b:Rat}(ha:a.den=1)(hb:b.den=1):(a+b)=((a.num+b.num:Int):Rat):=by
 have h1:a=((a.num:Int):Rat):=Rat.ext (by rw [YZ]) (by rw [YJ,ha]);have h2:b=((b.num:Int):Rat):=Rat.ext (by rw [YZ]) (by rw [YJ,hb]);rw [Rat.intCast_add,<-h1,<-h2]
theorem OH {b:Rat}(h:a=0\/b=0\/a.den=1/\b.den=1):(a*b)=((a.num*b.num:Int):Rat):=by
 rcases h with h|h|⟨ha,hb⟩
 ·subst h;rw [XL,show(0:Rat).num=0 from rfl,Int.zero_mul];rfl
 ·subst h;rw [xL,show(0:Rat).num=0 from rfl,Int.mul_zero];rfl
 ·have h1:a=((a.num:Int):Rat):=Rat.ext (by rw [YZ]) (by rw [YJ,ha]);have h2:b=((b.num:Int):Rat):=Rat.ext (by rw [YZ]) (by rw [YJ,hb]);rw [yP,<-h1,<-h2]
theorem Wc (x y:Nat)(A D:ze)(n m c d:Nat)(w:World)(hA:zq w x A n c)(hD:zq w y D m d)(hn:n<=274877906944)(hm:m<=274877906944):
  Calls prog 125 #[.agg #[.slice A n c],.agg #[.slice D m d]] w (ie w (x / y) (decide (y≠0))):=by
 by_cases hy:y=0
 ·have e:x / y=0:=by rw [hy,Nat.div_zero]
  have e2:decide (y≠0)=false:=by simp [hy]
  rw [e,e2];exact Zv 0 0 false A D n m c d w (λw' hb=>Xx x y A D n m c d w' (hA.below hb) (hD.below hb) hy)
 ·have e2:decide (y≠0)=true:=by simp [hy]
  rw [e2];exact Zv (x / y) (x%y) true A D n m c d w (λw' hb=>cC x y A D n m c d w' (hA.below hb) (hD.below hb) za za hy)
theorem Qn (x y:Nat)(A D:ze)(n m c d:Nat)(w:World)(hA:zq w x A n c)(hD:zq w y D m d)(hn:n<=1073741824)(hm:m<=1073741824)(hT:zu w):
  Calls prog 95 #[.agg #[.slice A n c],.agg #[.slice D m d]] w (Yr w (x / Nat.gcd x y) (y / Nat.gcd x y)):=by
 have HO:=zk w (λw' hb=>qr x y A D n m c d w' (hA.below hb) (hD.below hb) hn hm (hT.on hb));obtain⟨g,hg⟩:∃g,Nat.gcd x y=g:=⟨_,rfl⟩;have lg:(dg 18446744073709551616 g).length<=2147483648:=by
  rw [<-hg];rcases QW x with e|e
  ·rw [e,YY,hD.len];omega
  ·exact qH (lH zf (Nat.gcd_le_left y e)) (by rw [hA.len];omega)
 rw [hg] at HO⊢;have s:=zk w (λw' hb A1 n1 c1 (h1:zq w' g A1 n1 c1)=>Wc x g A A1 n n1 c c1 w' (hA.below hb) h1 za (by rw [<-h1.len];omega));have t:=zk w (λw' hb A1 n1 c1 (h1:zq w' g A1 n1 c1)=>Wc y g D A1 m n1 d c1 w' (hD.below hb) h1 za (by rw [<-h1.len];omega));obtain⟨X,hX⟩:∃g',x / g=g':=⟨_,rfl⟩;obtain⟨Y,hY⟩:∃g',y / g=g':=⟨_,rfl⟩;obtain⟨bb,a⟩:∃g':Bool,decide (g≠0)=g':=⟨_,rfl⟩;rw [hX,a] at s;rw [hY,a] at t;rw [hX,hY];clear hA hD hT hg lg hX hY a;go_enter func95,ntmps95;go_wp2_with fail;obtain⟨b1,b2,b3,b4,b5⟩:=xd w 48 48 48 #[.slice A n c] #[.slice D m d] #[.slice none 0 0];obtain⟨W3,o⟩:∃W,((w.alloc (.cells #[.slice A n c] 48)).alloc (.cells #[.slice D m d] 48)).alloc (.cells #[.slice none 0 0] 48)=W:=⟨_,rfl⟩;rw [o] at b1 b2 b3 b4 b5⊢;have u:W3.heap.size=w.heap.size+1+1+1:=by rw [<-o];simp
 have kA:=b2.one.alloc (.cells #[.slice none 0 0] 48);have kD:=b3.one.alloc (.cells #[.slice none 0 0] 48);have kx:=b4.one.alloc (.cells #[.slice none 0 0] 48);have ky:=xi.new W3 48 (.slice none 0 0);rw [u] at ky;have hB:=b1.alloc b1.size (.cells #[.slice none 0 0] 48);clear b1 b2 b3 b4 b5 o u;generalize W3.alloc (.cells #[.slice none 0 0] 48)=W4 at*;obtain⟨p,hp⟩:∃p,w.heap.size=p:=⟨_,rfl⟩;have hpw:w.heap.size<=p:=za;refine(HO.o _ hB).mono ?_;rw [hp] at kA kD kx ky⊢;clear hp;rintro e w1 ⟨A1,n1,c1,rfl,h,hb⟩;obtain⟨d1,d2,d3⟩:=zA w1 48 #[.slice A1 n1 c1];have a:=zc hb d1;have kA:=kA.keep a;have kD:=kD.keep a;have kx:=kx.keep a;have ky:=ky.keep a;have hB:=zc hB a;have h:=h.below d1;have kg:=d2.one;clear d1 d2 d3 hb a;have e1:=kA.cell;have e2:=kg.cell;go_wp2_with fail;generalize E:w1.alloc (.cells #[.slice A1 n1 c1] 48)=W5 at*;generalize w1.heap.size=z1 at*;clear E;refine(s.o _ hB A1 n1 c1 h).mono ?_;clear e1 e2;rintro e w2 ⟨A2,n2,c2,rfl,i,hb⟩;have hz2:=(ky.keep hb).lt;obtain⟨d1,d2,d3⟩:=zA w2 48 #[.slice A2 n2 c2];have a:=zc hb d1;have kD:=kD.keep a;have kx:=kx.keep a;have ky:=ky.keep a;have kg:=kg.keep a;have hB:=zc hB a;have h:=h.below a;have i:=i.below d1;have k7:=d2.one;clear d1 d2 d3 hb a kA;have e1:=kD.cell;have e2:=kg.cell;go_wp2_with fail;generalize F:w2.alloc (.cells #[.slice A2 n2 c2] 48)=W6 at*;generalize w2.heap.size=z2 at*;clear F;refine(t.o _ hB A1 n1 c1 h).mono ?_;clear e1 e2;rintro e w3 ⟨A3,n3,c3,rfl,k,hb⟩;have hz3:=(ky.keep hb).lt;obtain⟨d1,d2,d3⟩:=zA w3 48 #[.slice A3 n3 c3];have a:=zc hb d1;have kx:=kx.keep a;have ky:=ky.keep a;have k7:=k7.keep a;have hB:=zc hB a;have i:=i.below a;have k:=k.below d1;have k9:=d2.one;clear d1 d2 d3 hb a kD kg h;go_wp2_with fail;generalize G:w3.alloc (.cells #[.slice A3 n3 c3] 48)=W7 at*;generalize w3.heap.size=z3 at*;clear G;have q7:W7.cell? ⟨z2,0,none⟩=some (.slice A2 n2 c2):=k7.cell;have q9:W7.cell? ⟨z3,0,none⟩=some (.slice A3 n3 c3):=k9.cell;have qx:W7.cell? ⟨p+1+1,0,none⟩=some (.slice none 0 0):=kx.cell;have qy:W7.cell? ⟨p+1+1+1,0,none⟩=some (.slice none 0 0):=ky.cell;have fx:W7.frozen? ⟨p+1+1,0,none⟩=false:=kx.frozen;have fy:W7.frozen? ⟨p+1+1+1,0,none⟩=false:=ky.frozen;have q9':=yk (q:=⟨p+1+1,0,none⟩) (.slice A2 n2 c2) (by show z3≠p+1+1;omega) q9;have C:=kx.set_ (.slice A2 n2 c2);have j:=ky.far (p:=⟨p+1+1,0,none⟩) (by show p+1+1+1≠p+1+1;omega) (.slice A2 n2 c2);have qy':=j.cell;have fy':=j.frozen;have z:=wu i kx (.slice A2 n2 c2);have B:=wu k kx (.slice A2 n2 c2);have rx:=(C.far (p:=⟨p+1+1+1,0,none⟩) (by show p+1+1≠p+1+1+1;omega) (.slice A3 n3 c3)).cell;have ry:=(j.set_ (.slice A3 n3 c3)).cell;have HE : zd (Yr w X Y (.returned (.tuple #[.agg #[.slice A2 n2 c2],.agg #[.slice A3 n3 c3]])) ((W7.setCell ⟨p + 1 + 1,0,none⟩ (.slice A2 n2 c2)).setCell ⟨p + 1 + 1 + 1,0,none⟩ (.slice A3 n3 c3)).drew) :=
  ⟨_,_,_,_,_,_,rfl,wu z j _,wu B j _,(hB.setCell (p:=⟨p+1+1,0,none⟩) (by show w.heap.size<=p+1+1;omega) _).setCell (p:=⟨p+1+1+1,0,none⟩) (by show w.heap.size<=p+1+1+1;omega) _|>.drew⟩
 clear k7 k9 kx ky hB i k C j z B;go_region
 all_goals
  go_wp2
  refine bodyPost_ret (v:=.tuple #[.agg #[.slice A2 n2 c2],.agg #[.slice A3 n3 c3]]) (by simp [results,results95,go_sem,rx,ry]) rfl ?_
  exact HE.o
theorem Sz.of_words (h:zq w x A n c)(hn:n<=K):Sz K x:=by
 have h1:=ww (b:=18446744073709551616) zf x;rw [h.len] at h1;exact qJ h1 (qA zf hn)
theorem fQ:aQ where
 of x y A D n m c d w hA hD hn hm hT:=qr x y A D n m c d w hA hD hn hm hT
 reduce x y A D n m c d w hA hD hn hm hT:=Qn x y A D n m c d w hA hD hn hm hT
theorem zq.to8 (e:x=y)(h:zq w x A n c):zq w y A n c:=e▸h
theorem yi.to8 {x y:Int}(e:x=y)(h:yi w x b A n c):yi w y b A n c:=e▸h
theorem Uf (x:Nat)(A:ze)(n c:Nat)(w:World)(h:zq w x A n c)(hn:n<=1099511627776):
  Calls prog 107 #[.agg #[.slice A n c]] w λe w'=>∃(B:ze) (m d:Nat),e=.returned (.slice B m d)/\zq w' x B m d/\Below w.heap.size w w':=by
 refine(jH x A n c w h hn).mono ?_;rintro e w' ⟨B,d,rfl,h1,h2,h3,h4⟩;exact⟨B,_,d,rfl,⟨h1,h2,h3.1⟩,h4⟩
theorem jn (x:Nat)(A:ze)(n c:Nat)(w:World)(h:zq w x A n c)(hn:n<=1099511627776):
  Calls prog 106 #[.slice A n c] w λe w'=>∃(B:ze) (m d:Nat),e=.returned (.agg #[.slice B m d])/\zq w' x B m d/\Below w.heap.size w w':=by
 have k:=tz A n c _ w h.1 (tw zf x) h.2.1 h.2.2 hn;rw [uz zf] at k;refine k.mono ?_;rintro e w' ⟨B,m,d,rfl,h1,h2,_⟩;exact⟨B,m,d,rfl,h1,h2⟩
theorem TQ {P:Program}{f:FuncId}{args:Array Value}{v:Int}(e:z=v)(h:Calls P f args w λe w'=>e=.returned (.tuple #[.int .u64 z,.bool true])/\Below w.heap.size w w'):Calls P f args w λe w'=>e=.returned (.tuple #[.int .u64 v,.bool true])/\Below w.heap.size w w':=by
 subst e;exact h
theorem bO {K':Nat}(h:Sz K z.natAbs)(h':Sz K' k):Sz (K+K') (z*((k:Nat):Int)).natAbs:=by
 rw [xS,yN];exact h.mul h'
theorem xy {q:Nat}(h:Sz K q)(e:q=(if x=0 then 1 else x)/\x≠1):Sz K x:=h.of_le (by rw [e.1];split<;>omega)
theorem xj {r:Rat}(h:zo w r b A n c E k f)(q:zY n k)(hK:67108864=K):zn K r:=by
 obtain⟨x,e,hx⟩:=h.2;have h1:Sz K r.num.natAbs:=Sz.of_words h.1.2 (by have:=q.1;omega);have h2:Sz K x:=Sz.of_words hx (by have:=q.2;omega);refine⟨h1,?_⟩;rw [e.1]
 split
 ·exact cH za
 ·exact h2
theorem cN (w:World):zq w 0 none 0 0:=by
 refine⟨⟨by rw [show dg 18446744073709551616 0=[] from by rw [dg];rfl];rfl,λh=>absurd h zf⟩,qX _,zf⟩
theorem Zw (w:World):zo w (0:Rat) false none 0 0 none 0 0:=⟨⟨rfl,cN w⟩,⟨0,⟨rfl,zf⟩,cN w⟩⟩
theorem bS (h:yi w z b A n c):zo w (z:Rat) b A n c none 0 0:=⟨by rw [YZ];exact h,⟨0,⟨by rw [YJ];rfl,zf⟩,cN w⟩⟩
theorem PP {r:Rat}(hn:r.num=z)(hd:r.den=1)(h:yi w z b A n c)(q:zq w 0 E k f):zo w r b A n c E k f:=
 ⟨by rw [hn];exact h,⟨0,⟨by rw [hd];rfl,zf⟩,q⟩⟩
theorem WS {r:Rat}(hn:r.num=z)(hd:r.den=y)(hy:y≠1)(h:yi w z b A n c)(q:zq w y E k f):zo w r b A n c E k f:=
 ⟨by rw [hn];exact h,⟨y,⟨by rw [if_neg (λh0=>r.den_nz (by rw [hd,h0]))];exact hd,hy⟩,q⟩⟩
theorem Zz {q:Nat}(e:q=(if x=0 then 1 else x)/\x≠1)(h:q=1):x=0:=by
 refine Decidable.byContradiction λh0=>?_;rw [if_neg h0] at e;omega
theorem cF {q:Nat}(e:q=(if x=0 then 1 else x)/\x≠1)(h:q≠1):x≠0/\x=q:=by
 have h0:x≠0:=λh0=>h (by rw [e.1,if_pos h0]);refine⟨h0,?_⟩;have:=e.1;rw [if_neg h0] at this;exact this.symm
theorem PW (z:Int):z4 (decide (z<0)) z.natAbs=z:=by
 unfold z4;by_cases h:z<0
 ·rw [decide_eq_true h,if_pos rfl];omega
 ·rw [decide_eq_false h,if_neg zf];omega
theorem Oh (h:zq w x A n c)(hn:n<=1):x<18446744073709551616:=Yi h.len hn
theorem mw (h:zq w x A n c)(hx:x=1):n<=1:=by
 have h1:Sz 1 x:=by rw [hx];exact cH zf
 exact h1.words h
theorem Qv (p d:Int)(hd:d≠0):(Rat.divInt p d).num=z4 (decide (p<0) !=decide (d<0)) (p.natAbs / Nat.gcd p.natAbs d.natAbs)/\(Rat.divInt p d).den=d.natAbs / Nat.gcd p.natAbs d.natAbs:=by
 refine⟨?_,pt p d hd⟩;have h1:=pu p d hd;have h2:=Ol p d hd;rw [<-h1];generalize (Rat.divInt p d).num=z at*;unfold z4;by_cases hp:p<0
 ·by_cases hq:d<0
  ·rw [decide_eq_true hp,decide_eq_true hq];simp;omega
  ·rw [decide_eq_true hp,decide_eq_false hq];simp;omega
 ·by_cases hq:d<0
  ·rw [decide_eq_false hp,decide_eq_true hq];simp;by_cases h0:p=0
   ·subst h0;simp at h1;omega
   ·omega
  ·rw [decide_eq_false hp,decide_eq_false hq];simp;omega
theorem ZI (z:Int)(k:Bool)(j:ze)(g m:Nat)(w:World)(hT:zu w)(t:yi w z k j g m)(H:g<=268435456):
  Calls prog 103 #[.agg #[.bool k,.slice j g m]] w (wl w z):=by
 have o:=zb (vy (T:=zu));have HT:=zk w (λw' hb=>hT.on hb);have HTB:=HT;obtain⟨K,G⟩:∃K,268435456=K:=⟨_,rfl⟩;have hKK:K<=268435456:=za;have hK0:0<K:=za;have HV:=zb (PW z);obtain⟨sb,u⟩:∃s,decide (z<0)=s:=⟨_,rfl⟩;rw [u] at HV;have F:=zb u;clear u;have i:=zk w (λw' b=>t.below b);have n:zd (Sz K z.natAbs):=Sz.of_words t.words za;clear t H;clear hT G;go_enter func103,ntmps103;have hB:=qZ w.heap.size w;obtain⟨A,B,C,bz⟩:=yv w 50 50 #[.bool k,.slice j g m] #[.bool false,.slice none 0 0];have hB:=zc hB A;obtain⟨g1,e1⟩:=B.c2;have k2:=C;clear A B C bz;go_wp2_with fail;generalize (w.alloc (.cells #[.bool k,.slice j g m] 50)).alloc (.cells #[.bool false,.slice none 0 0] 50)=W1 at*;have C0:=zk W1 (λw' h=>wE (F.o) (o.o.belowI (z) k j g m w' (HT.o _ (zc hB h)) (i.o _ (zc hB h)) (yz n (i.o _ hB))));have y:zd (Sz (K) (z.natAbs)):=n.o;have C1:=zk W1 (λw' h=>o.o.abs (z) k j g m w' (HT.o _ (zc hB h)) (i.o _ (zc hB h)) (yz n (i.o _ hB)));have HZ4:zd (Sz (K) (z4 sb z.natAbs).natAbs):=(by rw [jT];exact y.o);have C2:=zk W1 (λw' h B3 m3 d3 (d:zq w' (z.natAbs) B3 m3 d3)=>o.o.new sb (z.natAbs) B3 m3 d3 w' (HT.o _ (zc hB h)) d (y7 y d));have a:=(qZ W1.heap.size W1).drew;refine rg (zj g1 (zj e1 zO)) (λhHeld=>?_);refine tk 0 ?_;refine tk 2 ?_;refine rc 1 (λK hK=>?_);go_simp;go_at_call 66;(with_reducible refine(C0.o _ a).mono ?_);rintro e wa2 ⟨rfl,hb⟩;have a:=zc a hb;refine hK.out _ _ (Cs.below hHeld hb) (λhHeld=>?_);clear hK K hb
 try simp only [z8]
 refine rc 3 (λK hK=>?_);go_simp;go_at_call 67;(with_reducible refine(C1.o _ a).mono ?_);rintro e wa3 ⟨B3,m3,d3,rfl,d,hb⟩;have a:=zc a hb;refine hK.out _ _ (Cs.below hHeld hb) (λhHeld=>?_);clear hK K hb
 try simp only [z8]
 refine rc 4 (λK hK=>?_);go_simp;go_at_call 113;(with_reducible refine(C2.o _ a _ _ _ d).mono ?_);rintro e wa4 ⟨b4,B4,m4,d4,rfl,D,hb⟩;have a:=zc a hb;have d:=d.below hb;refine hK.out _ _ (Cs.below hHeld hb) (λhHeld=>?_);clear hK K hb
 try simp only [z8]
 obtain⟨sc0,sf0,sc1,sf1⟩:=uH (zg a k2) (.bool b4);refine rc 5 (λK hK=>?_);go_simp;refine hK.out _ _ (aT (.bool b4) (.slice B4 m4 d4) hHeld) (λhHeld=>?_);clear hK K
 try simp only [z8]
 refine zV ?_;have hB:=zc hB a;obtain⟨g1,e1⟩:=xk a g1 e1;have k2:=zg a k2;have E:=zb D;clear a hHeld d D C0 C1 C2;obtain⟨r0,r1⟩:=(uG k2 (.bool b4) (.slice B4 m4 d4)).c2;have HG:=zb (aU (yi.to8 HV.o E.o) k2 hB za);go_wp2;refine bodyPost_ret (v:=.agg #[.bool b4,.slice B4 m4 d4]) (by simp [results,results103,go_sem,r0,r1]) rfl ?_;exact HG.o
theorem cW (z:Int)(k:Nat)(n:Bool)(j:ze)(g o:Nat)(m:ze)(i s:Nat)(w:World)(hT:zu w)(B:yi w z n j g o)(C:zq w k m i s)(N:g<=134217728)(O:i<=134217728):
  Calls prog 128 #[.agg #[.bool n,.slice j g o],.agg #[.slice m i s]] w (wl w (z*((k:Nat):Int))):=by
 have D:=zb (vy (T:=zu));have HT:=zk w (λw' hb=>hT.on hb);have HTB:=HT;obtain⟨K,M⟩:∃K,134217728=K:=⟨_,rfl⟩;have hKK:K<=134217728:=za;have hK0:0<K:=za;have t:=zk w (λw' b=>B.below b);have y:zd (Sz K z.natAbs):=Sz.of_words B.words za;clear B N;have u:=zk w (λw' b=>C.below b);have A:zd (Sz K k):=Sz.of_words C za;clear C O;clear hT M;go_enter func128,ntmps128;have hB:=qZ w.heap.size w;obtain⟨F,G,H,I,bz⟩:=xd w 50 48 50 #[.bool n,.slice j g o] #[.slice m i s] #[.bool false,.slice none 0 0];have hB:=zc hB F;obtain⟨g1,e1⟩:=G.c2;have g2:=H.c1;have k3:=I;clear F G H I bz;go_wp2_with fail;generalize ((w.alloc (.cells #[.bool n,.slice j g o] 50)).alloc (.cells #[.slice m i s] 48)).alloc (.cells #[.bool false,.slice none 0 0] 50)=W1 at*;have E:zd (Sz (K) (((k:Nat):Int)).natAbs):=(by rw [yN];exact A.o);have C0:=zk W1 (λw' h=>qF D.o (k) m i s w' (HT.o _ (zc hB h)) (u.o _ (zc hB h)) (y7 A (u.o _ hB)));have HZ5:zd (Sz (K+K) (z*(((k:Nat):Int))).natAbs):=SzI.mul y.o E.o;have C1:=zk W1 (λw' h b4 B4 m4 d4 (d:yi w' (((k:Nat):Int)) b4 B4 m4 d4)=>D.o.mul (z) (((k:Nat):Int)) n b4 j B4 g m4 o d4 w' (HT.o _ (zc hB h)) (t.o _ (zc hB h)) d (yz y (t.o _ hB)) (yz E d));have a:=(qZ W1.heap.size W1).drew;refine rg (zj g1 (zj e1 (zj g2 zO))) (λhHeld=>?_);refine tk 0 ?_;refine tk 1 ?_;refine rc 2 (λK hK=>?_);go_simp;go_at_call 113;(with_reducible refine(C0.o _ a).mono ?_);rintro e wa2 ⟨b4,B4,m4,d4,rfl,d,hb⟩;have a:=zc a hb;refine hK.out _ _ (Cs.below hHeld hb) (λhHeld=>?_);clear hK K hb
 try simp only [z8]
 refine rc 3 (λK hK=>?_);go_simp;go_at_call 94;(with_reducible refine(C1.o _ a _ _ _ _ d).mono ?_);rintro e wa3 ⟨b5,B5,m5,d5,rfl,J,hb⟩;have a:=zc a hb;have d:=d.below hb;refine hK.out _ _ (Cs.below hHeld hb) (λhHeld=>?_);clear hK K hb
 try simp only [z8]
 obtain⟨sc0,sf0,sc1,sf1⟩:=uH (zg a k3) (.bool b5);refine rc 4 (λK hK=>?_);go_simp;refine hK.out _ _ (aT (.bool b5) (.slice B5 m5 d5) hHeld) (λhHeld=>?_);clear hK K
 try simp only [z8]
 refine zV ?_;have hB:=zc hB a;obtain⟨g1,e1,g2⟩:=yl a g1 e1 g2;have k3:=zg a k3;have L:=zb J;clear a hHeld d J C0 C1;obtain⟨r0,r1⟩:=(uG k3 (.bool b5) (.slice B5 m5 d5)).c2;have HG:=zb (aU (L.o) k3 hB za);go_wp2;refine bodyPost_ret (v:=.agg #[.bool b5,.slice B5 m5 d5]) (by simp [results,results128,go_sem,r0,r1]) rfl ?_;exact HG.o
theorem Ry (r:Rat)(k:Bool)(i:ze)(g m:Nat)(j:ze)(h n:Nat)(w:World)(hT:zu w)(t:zo w r k i g m j h n)(A:zY g h)(hd:r.den=1):
  Calls prog 93 #[.agg #[.bool k,.slice i g m,.slice j h n]] w (λe w'=>e=.returned (.bool true)/\Below w.heap.size w w'):=by
 have HT:=zk w (λw' hb=>hT.on hb);have HTB:=HT;obtain⟨K,z⟩:∃K,67108864=K:=⟨_,rfl⟩;have hKK:K<=67108864:=za;have hK0:0<K:=za;obtain⟨C,a,d⟩:=t.2;have u:=zb a;have o:zd (zn K r):=xj t A z;have HZaap:zd (Sz K r.num.natAbs):=o.o.num;have HZaaq:zd (Sz K C):=xy o.o.den a;have s:=zk w (λw' b=>d.below b);clear t A a d;have B:=zb (Zz u.o hd);clear hT z hd;go_enter func93,ntmps93;have hB:=qZ w.heap.size w;obtain⟨v,y,bz⟩:=zA w 52 #[.bool k,.slice i g m,.slice j h n];have hB:=zc hB v;obtain⟨g1,e1,i1⟩:=y.c3;clear v y bz;go_wp2_with fail;generalize w.alloc (.cells #[.bool k,.slice i g m,.slice j h n] 52)=W1 at*;(with_reducible refine(jO B.o (s.o _ hB)).mono ?_);rintro e wc2 ⟨rfl,hb⟩;have hB:=zc hB hb;obtain⟨g1,e1,i1⟩:=yl hb g1 e1 i1;clear hb ;go_wp2;go_ret;exact⟨by first|rfl|simp,hB⟩
theorem Rx (r:Rat)(k:Bool)(i:ze)(g m:Nat)(j:ze)(h n:Nat)(w:World)(hT:zu w)(t:zo w r k i g m j h n)(A:zY g h)(hd:r.den≠1):
  Calls prog 93 #[.agg #[.bool k,.slice i g m,.slice j h n]] w (λe w'=>e=.returned (.bool false)/\Below w.heap.size w w'):=by
 have HT:=zk w (λw' hb=>hT.on hb);have HTB:=HT;obtain⟨K,z⟩:∃K,67108864=K:=⟨_,rfl⟩;have hKK:K<=67108864:=za;have hK0:0<K:=za;obtain⟨C,a,d⟩:=t.2;have u:=zb a;have o:zd (zn K r):=xj t A z;have HZaap:zd (Sz K r.num.natAbs):=o.o.num;have HZaaq:zd (Sz K C):=xy o.o.den a;have s:=zk w (λw' b=>d.below b);clear t A a d;have B:=zb (cF u.o hd).1;clear hT z hd;go_enter func93,ntmps93;have hB:=qZ w.heap.size w;obtain⟨v,y,bz⟩:=zA w 52 #[.bool k,.slice i g m,.slice j h n];have hB:=zc hB v;obtain⟨g1,e1,i1⟩:=y.c3;clear v y bz;go_wp2_with fail;generalize w.alloc (.cells #[.bool k,.slice i g m,.slice j h n] 52)=W1 at*;(with_reducible refine(kI B.o (s.o _ hB)).mono ?_);rintro e wc2 ⟨rfl,hb⟩;have hB:=zc hB hb;obtain⟨g1,e1,i1⟩:=yl hb g1 e1 i1;clear hb ;go_wp2;go_ret;exact⟨by first|rfl|simp,hB⟩
theorem oP (r:Rat)(i:Bool)(g:ze)(a j:Nat)(h:ze)(d k:Nat)(w:World)(hT:zu w)(m:zo w r i g a j h d k)(n:zY a d):
  Calls prog 93 #[.agg #[.bool i,.slice g a j,.slice h d k]] w (λe w'=>e=.returned (.bool (decide (r.den=1)))/\Below w.heap.size w w'):=by
 by_cases hd:r.den=1
 ·rw [decide_eq_true hd];exact Ry r i g a j h d k w hT m n hd
 ·rw [decide_eq_false hd];exact Rx r i g a j h d k w hT m n hd
