/- What this claim leans on. -/
import Derived.Test.YtkcjgcflloldoaaGreatDoorPR5Gcd
set_option linter.unusedVariables false
set_option linter.unusedSimpArgs false
namespace Go.Proofs.YtkcjgcflloldoaaGreatDoor
open Go Go.RowKit Go.Proofs.Tryz
set_option maxHeartbeats 16000000
variable {t:Int}{K m x y:Nat}{a b:Rat}{w w':World}
theorem Sr {r:Rat}{d:Nat}(hd:d≠0)(hc:Nat.gcd t.natAbs d=1)(h:r=Rat.divInt t d):r.num=t/\r.den=d:=by
 have e:(⟨t,d,hd,hc⟩:Rat)=Rat.divInt t d:=Rat.mk_eq_divInt;rw [<-e] at h;subst h;exact⟨rfl,rfl⟩
theorem Xu (t:Int)(h:Nat)(hd:h ∣ t.natAbs):t=(h:Int)*zY (decide (t<0)) (t.natAbs / h):=by
 obtain⟨k,hk⟩:=hd;by_cases h0:h=0
 ·subst h0;rw [Nat.zero_mul] at hk;have:t=0:=Int.natAbs_eq_zero.1 hk;subst this;simp
 have e:t.natAbs / h=k:=by rw [hk];exact XT _ (xT h0)
 rw [e];unfold zY;by_cases ht:t<0
 ·rw [decide_eq_true ht,if_pos rfl,Int.mul_neg,<-xX,<-hk];omega
 ·rw [decide_eq_false ht,if_neg zf,<-xX,<-hk];omega
theorem oo (s u:Bool)(x y:Nat):zY s x*zY u y=zY (s !=u) (x*y):=by
 cases s<;>cases u<;>simp [zY,xX,Int.neg_mul,Int.mul_neg]
theorem N1 {p1 p2:Int}{q1 mA mB:Nat}(hc:Nat.gcd p1.natAbs q1=1)(hA:mA ∣ q1)(hm:Nat.gcd mA mB=1)(ht:t=p1*mB+p2*mA):Nat.gcd t.natAbs mA=1:=by
 refine Nat.dvd_one.1 ?_;have h1:Nat.gcd t.natAbs mA ∣ mA:=yK _ _;have h2:Nat.gcd t.natAbs mA ∣ t.natAbs:=yR _ _;generalize Nat.gcd t.natAbs mA=d at*;have h3:(d:Int)∣ p1*mB:=by
  have a:=Int.ofNat_dvd_left.2 h2;have b:(d:Int)∣ p2*mA:=Int.dvd_trans (Int.ofNat_dvd.2 h1) (Int.dvd_mul_left _ _);have c:=Int.dvd_sub a b;rw [ht,Int.add_sub_cancel] at c;exact c
 have h4:d ∣ p1.natAbs*mB:=by
  have:=Int.ofNat_dvd_left.1 h3;rwa [xN,XH] at this
 have h5:Nat.Coprime d mB:=YV h1 hm;have h6:d ∣ p1.natAbs:=h5.dvd_of_dvd_mul_right h4;have h7:=Nat.dvd_gcd h6 (Nat.dvd_trans h1 hA);rwa [hc] at h7
theorem O3 (a b:Rat){mA mB:Nat}{t:Int}(hA:mA=a.den / Nat.gcd a.den b.den)(hB:mB=b.den / Nat.gcd a.den b.den)(ht:t=a.num*mB+b.num*mA):
  (a+b).num=zY (decide (t<0)) (t.natAbs / Nat.gcd t.natAbs b.den)/\(a+b).den=mA*(b.den / Nat.gcd t.natAbs b.den):=by
 have g0:0<Nat.gcd a.den b.den:=Nat.gcd_pos_of_pos_left _ (xT a.den_nz);have k0:0<Nat.gcd t.natAbs b.den:=Nat.gcd_pos_of_pos_right _ (xT b.den_nz);have ea:Nat.gcd a.den b.den*mA=a.den:=by rw [hA];exact YH (yR _ _)
 have eb:Nat.gcd a.den b.den*mB=b.den:=by rw [hB];exact YH (yK _ _)
 have hm:Nat.gcd mA mB=1:=by rw [hA,hB];exact Nat.gcd_div_gcd_div_gcd_of_pos_left (xT a.den_nz)
 have hp:Nat.gcd t.natAbs mA=1:=N1 a.reduced ⟨_,(qB mA _▸ea).symm⟩ hm ht;have eh:Nat.gcd t.natAbs b.den*(b.den / Nat.gcd t.natAbs b.den)=b.den:=YH (yK _ _);have et:=Xu t (Nat.gcd t.natAbs b.den) (yR _ _);have hq:Nat.gcd (t.natAbs / Nat.gcd t.natAbs b.den) (b.den / Nat.gcd t.natAbs b.den)=1:=YL (xT b.den_nz);have c:mA≠0:=λh=>a.den_nz (by rw [<-ea,h];rfl);have r0:b.den / Nat.gcd t.natAbs b.den≠0:=λh=>b.den_nz (by rw [<-eh,h];rfl);refine Sr (Nat.mul_ne_zero c r0) ?_ ?_
 ·rw [iM];refine Nat.Coprime.mul_right ?_ hq;exact YV (Nat.div_dvd_of_dvd (yR _ _)) hp
 ·have e1:a+b=Rat.divInt (a.num*b.den+b.num*a.den) ((a.den*b.den:Nat):Int):=by rw [Rat.add_def'];rfl
  have e2:a.num*(b.den:Int)+b.num*(a.den:Int)=(Nat.gcd a.den b.den:Int)*t:=by
   rw [ht];generalize Nat.gcd a.den b.den=g at*;rw [<-eb,<-ea,xX,xX,Int.mul_add,Int.mul_left_comm,Int.mul_left_comm b.num]
  have e3:((a.den*b.den:Nat):Int)=(Nat.gcd a.den b.den:Int)*((mA*b.den:Nat):Int):=by
   generalize Nat.gcd a.den b.den=g at*;rw [<-ea,qH,xX]
  rw [e1,e2,e3,Rat.divInt_mul_left za];generalize Nat.gcd t.natAbs b.den=h at*;have e4:((mA*b.den:Nat):Int)=(h:Int)*((mA*(b.den / h):Nat):Int):=by
   conv=>lhs;rw [<-eh]
   rw [Nat.mul_left_comm,xX]
  rw [e4]
  conv=>lhs;rw [et]
  exact Rat.divInt_mul_left za
theorem O5 (a b:Rat):(a*b).num=zY (decide (a.num<0) !=decide (b.num<0)) (a.num.natAbs / Nat.gcd a.num.natAbs b.den*(b.num.natAbs / Nat.gcd b.num.natAbs a.den))/\
  (a*b).den=a.den / Nat.gcd b.num.natAbs a.den*(b.den / Nat.gcd a.num.natAbs b.den):=by
 have g0:0<Nat.gcd a.num.natAbs b.den:=Nat.gcd_pos_of_pos_right _ (xT b.den_nz);have k0:0<Nat.gcd b.num.natAbs a.den:=Nat.gcd_pos_of_pos_right _ (xT a.den_nz);have ea:Nat.gcd b.num.natAbs a.den*(a.den / Nat.gcd b.num.natAbs a.den)=a.den:=YH (yK _ _);have eb:Nat.gcd a.num.natAbs b.den*(b.den / Nat.gcd a.num.natAbs b.den)=b.den:=YH (yK _ _);have ta:=Xu a.num _ (yR a.num.natAbs b.den);have tb:=Xu b.num _ (yR b.num.natAbs a.den);have c1:Nat.Coprime (a.num.natAbs / Nat.gcd a.num.natAbs b.den) (b.den / Nat.gcd a.num.natAbs b.den):=YL (xT b.den_nz);have c2:Nat.Coprime (b.num.natAbs / Nat.gcd b.num.natAbs a.den) (a.den / Nat.gcd b.num.natAbs a.den):=YL (xT a.den_nz);have c3 : Nat.Coprime (a.num.natAbs / Nat.gcd a.num.natAbs b.den) (a.den / Nat.gcd b.num.natAbs a.den) :=
  YV (Nat.div_dvd_of_dvd (yR _ _)) (Nat.Coprime.coprime_dvd_right (Nat.div_dvd_of_dvd (yK _ _)) a.reduced)
 have c4 : Nat.Coprime (b.num.natAbs / Nat.gcd b.num.natAbs a.den) (b.den / Nat.gcd a.num.natAbs b.den) :=
  YV (Nat.div_dvd_of_dvd (yR _ _)) (Nat.Coprime.coprime_dvd_right (Nat.div_dvd_of_dvd (yK _ _)) b.reduced)
 refine Sr (λh=>?_) ?_ ?_
 ·rcases Nat.mul_eq_zero.1 h with h|h
  ·rw [h] at ea;exact a.den_nz ea.symm
  ·rw [h] at eb;exact b.den_nz eb.symm
 ·rw [iM];exact Nat.Coprime.mul_right (Nat.Coprime.mul_left c3 c2) (Nat.Coprime.mul_left c1 c4)
 ·have e1:a*b=Rat.divInt (a.num*b.num) ((a.den*b.den:Nat):Int):=by rw [Rat.mul_def'];rfl
  rw [e1,<-oo];generalize a.num.natAbs / Nat.gcd a.num.natAbs b.den=x1 at*;generalize b.num.natAbs / Nat.gcd b.num.natAbs a.den=x2 at*;generalize b.den / Nat.gcd a.num.natAbs b.den=y2 at*;generalize a.den / Nat.gcd b.num.natAbs a.den=y1 at*;generalize Nat.gcd a.num.natAbs b.den=g at*;generalize Nat.gcd b.num.natAbs a.den=k at*;generalize zY (decide (a.num<0)) x1=u1 at*;generalize zY (decide (b.num<0)) x2=u2 at*;have e2:a.num*b.num=((g*k:Nat):Int)*(u1*u2):=by
   rw [ta,tb,xX];simp only [Int.mul_assoc,Int.mul_left_comm]
  have e3:((a.den*b.den:Nat):Int)=((g*k:Nat):Int)*((y1*y2:Nat):Int):=by
   rw [<-ea,<-eb,<-xX];congr 1;simp only [Nat.mul_left_comm,qB]
  rw [e2,e3];exact Rat.divInt_mul_left (by have:=Nat.mul_pos g0 k0;omega)
theorem O4 (a:Rat)(h:a≠0):(a⁻¹).num=zY (decide (a.num<0)) a.den/\(a⁻¹).den=a.num.natAbs:=by
 have hn:a.num≠0:=λe=>h (Rat.num_eq_zero.1 e);constructor
 ·rw [Rat.num_inv];unfold zY;rcases Int.lt_or_gt_of_ne hn with h1|h1
  ·rw [Int.sign_eq_neg_one_of_neg h1,decide_eq_true h1,if_pos rfl];omega
  ·rw [Int.sign_eq_one_of_pos h1,decide_eq_false za,if_neg zf];omega
 ·rw [Rat.den_inv,if_neg hn]
theorem O6 (a:Rat):(-a).num=zY (!decide (a.num<0)) a.num.natAbs/\(-a).den=a.den:=by
 refine⟨?_,rfl⟩;rw [Rat.neg_num];unfold zY;by_cases h:a.num<0
 ·simp [h];omega
 ·simp [h];omega
theorem N7 (ha:a.den=1)(hb:b.den=1):(a+b)=((a.num+b.num:Int):Rat):=by
 have h1:a=((a.num:Int):Rat):=Rat.ext (by rw [yH]) (by rw [YU,ha]);have h2:b=((b.num:Int):Rat):=Rat.ext (by rw [yH]) (by rw [YU,hb]);rw [Rat.intCast_add,<-h1,<-h2]
theorem Ma (h:a=0\/b=0\/a.den=1/\b.den=1):(a*b)=((a.num*b.num:Int):Rat):=by
 rcases h with h|h|⟨ha,hb⟩
 ·subst h;rw [yX,show(0:Rat).num=0 from rfl,Int.zero_mul];rfl
 ·subst h;rw [XQ,show(0:Rat).num=0 from rfl,Int.mul_zero];rfl
 ·have h1:a=((a.num:Int):Rat):=Rat.ext (by rw [yH]) (by rw [YU,ha]);have h2:b=((b.num:Int):Rat):=Rat.ext (by rw [yH]) (by rw [YU,hb]);rw [yC,<-h1,<-h2]
def oU (w:World)(x:Nat)(e:Ending)(w':World):Prop:=∃(A:ze) (n c:Nat),e=.returned (.agg #[.slice A n c])/\zo w' x A n c/\Below w.heap.size w w'
def We (w:World)(x y:Nat)(e:Ending)(w':World):Prop:=∃(A:ze) (n c:Nat) (B:ze) (m d:Nat),e=.returned (.tuple #[.agg #[.slice A n c],.agg #[.slice B m d]])/\zo w' x A n c/\zo w' y B m d/\Below w.heap.size w w'
theorem Sz.gcd {K':Nat}(h:Sz K x)(h':Sz K' y):Sz (K+K') (Nat.gcd x y):=by
 rcases xQ x with e|e
 ·rw [e,XI];exact h'.up za
 ·exact(h.of_le (Nat.gcd_le_left y e)).up za
structure ZG:Prop where
 of:∀(x y:Nat) (A D:ze) (n m c d:Nat) (w:World),zo w x A n c->zo w y D m d->n<=1073741824->m<=1073741824->zu w->Calls prog 143 #[.agg #[.slice A n c],.agg #[.slice D m d]] w (oU w (Nat.gcd x y))
 reduce:∀(x y:Nat) (A D:ze) (n m c d:Nat) (w:World),zo w x A n c->zo w y D m d->n<=1073741824->m<=1073741824->zu w->Calls prog 112 #[.agg #[.slice A n c],.agg #[.slice D m d]] w (We w (x / Nat.gcd x y) (y / Nat.gcd x y))
theorem Sz.len16' (h:Sz K x):(dg 65536 x).length<=4*K:=wP zf _ _ (by rw [cI];exact h)
theorem Sz.holds' (h:Sz K x){w:World}{A:ze}{n c:Nat}(hw:zE w x A n c):n<=4*K:=by rw [hw.len];exact h.len16'
theorem SU (cs:Array Value)(l:List Nat)(w:World)(g n x:Nat)(hk:zh w g 125 cs)(hn:cs.size=n)(hv:cs.toList=zt .u64 l)(hd:zH 18446744073709551616 l)(hx:dv 18446744073709551616 l=x)(hs:n<=1000):
  Calls prog 91 #[.slice (some ⟨g,0,none⟩) n n] w (vu w x):=by
 have hl:l.length=n:=by
  have h:=congrArg List.length hv;rw [wL] at h;rw [<-h];simpa using hn
 have:=lv (some ⟨g,0,none⟩) n n l w (iF hk hn (by rw [hv,qV (by rw [wL];omega)]) hl) hd za;rw [hx] at this;exact this
set_option maxRecDepth 100000
def nO (w:World)(e:Ending)(w':World):Prop:=e=.returned (.bool true)/\Below w.heap.size w w'
theorem gU (x:Nat)(A D:ze)(n c m d:Nat)(w:World)(hA:zo w x A n c)(hD:zE w x D m d)(hn:n<=1099511627776)(hm:m<=1099511627776):
  Calls prog 46 #[.agg #[.slice A n c],.slice D m d] w (nO w):=by
 have HW:=(λw' (hb:Below w.heap.size w w')=>ji x A n c w' (hA.below hb) hn);have HR:=zj w (λw' hb=>Ul x D m d w' (hD.below hb) hm);have HI:=zj w (λw' hb A1 c1 (h:zL w' w'.heap.size 1 A1 n (zt .u64 (dg 18446744073709551616 x)))=>lu x D A1 m d n c1 w' (hD.below hb) hm h hn);have a:=hA.len;unfold jy at HW HR;rw [a] at HW HR;have j:=zb HW;have i:=zb HR;clear HW HR a hA hD;go_enter func46,ntmps46;go_wp2_with fail;obtain⟨b1,b2,b5⟩:=zw w 50 #[.slice A n c];refine(j.o _ b1).mono ?_;rintro e w1 ⟨A1,c1,rfl,g,h1,⟨h2,_⟩,hb⟩;have hB:=zc b1 hb;have g1:w1.cell? ⟨w.heap.size,0,none⟩=some (.slice A n c):=zq hb (b2.cell 0);clear hb b1 b2 b5;go_wp2_with fail;refine(HI.o _ hB A1 c1 g).mono ?_;rintro e w2 ⟨rfl,hb⟩;have hB:=zc hB hb;have g1:=zq hb g1;clear hb g;go_wp2_with fail;refine(ui x _ _ _ _).mono ?_;rintro e w3 ⟨rfl,hb⟩;have hB:=zc hB hb;clear hb g1;go_wp2_with fail;refine(i.o _ hB).mono ?_;rintro e w4 ⟨A2,c2,rfl,_,_,_,hb⟩;have hB:=zc hB hb;clear hb;go_wp2;go_ret;exact⟨rfl,hB⟩
theorem Yw {x y n m:Nat}(hx:(dg 65536 x).length<=n)(hy:(dg 65536 y).length<=m):(dg 65536 (x*y)).length<=n+m:=by
 refine wP zf _ _ ?_;rw [xU];exact XP (qJ (yv zf x) (qG zf hx)) (qJ (yv zf y) (qG zf hy))
theorem PD (x y j:Nat):x*(y / 65536^(j+1))*2^16+(x*(y / 65536^j%65536)+0)=x*(y / 65536^j):=by
 conv=>rhs;rw [gi 65536 y j]
 rw [qM,show(2:Nat)^16=65536 from by decide,qH,qB (y / 65536^(j+1)) 65536];exact congrArg _ (XX _)
theorem Yq (w:World):zE w 0 none 0 0:=⟨zL.none_,qX _,za⟩
theorem Xs (x y:Nat)(A D:ze)(n m c d:Nat)(w:World)(hA:zE w x A n c)(hD:zE w y D m d)(hn:n<=68719476736)(hm:m<=68719476736):
  Calls prog 95 #[.slice A n c,.slice D m d] w λe w'=>∃(A':ze) (n' c':Nat),e=.returned (.slice A' n' c')/\zE w' (x*y) A' n' c'/\Below w.heap.size w w':=by
 have u:=zb hA.len;have z:=zb hD.len;have HA:=zj w (λw' hb=>hA.below hb);have hR:=hD.1;have H0:zd (x*(y / 65536^m)=0):=by
  show _=_;rw [QB (by rw [z.o];exact yv zf y),yD]
 clear hA hD;go_enter func95,ntmps95;go_wp2_with fail
 go_loopg [5,6] (m+1) (λg o ix wr=>∃(k:Nat) (A':ze) (n' c':Nat),k<=m/\k<g/\ix=.int .i64 ((k:Int) - 1)/\o=.slice A' n' c'/\zd (zE wr (x*(y / 65536^k)) A' n' c')/\Below w.heap.size w wr)
 case atStart=>exact⟨m,none,0,0,qX _,za,rfl,rfl,by show zE _ _ _ _ _;rw [H0.o];exact Yq _,qZ _ _⟩
 case round=>
  obtain⟨k,A',n',c',hk,hg,rfl,rfl,hO,hB⟩:=hrel;by_cases hk0:k=0
  ·subst hk0;have s:=hO.o;rw [XM,Nat.div_one] at s;have HG:=zb s;clear hO s;go_wp2;go_ret;exact⟨_,_,_,rfl,HG.o,hB⟩
  ·obtain⟨j,rfl⟩:∃j,k=j+1:=⟨k - 1,za⟩;obtain⟨ad,rfl,hadb,t⟩:=wQ (hR.below hB) (k:=j) za;rw [ng] at t;have i:y / 65536^j%65536<65536:=QA _ zf;have B:=PD x y j;have hnl:n'<=n+m:=by
    rw [hO.o.len];exact Yw (by have:=u.o;omega) (by have:=z.o;have:=sf (b:=65536) zf (QI y (65536^(j+1)));omega)
   have J:∀{w':World} {L:ze} {K M:Nat},zE w' (x*(y / 65536^(j+1))*2^16) L K M->K<=n+m+1:=λh=>by
    rw [h.len];have h2:=Yw (x:=x) (y:=y / 65536^(j+1)*2^16) (n:=n) (m:=m) (by have:=u.o;omega) (by
     have h3:y / 65536^(j+1)*2^16<=y:=by
      rw [show(2:Nat)^16=65536 from by decide];have h4:=Nat.div_mul_le_self y (65536^(j+1));have h5:65536<=65536^(j+1):=by rw [qO];exact Nat.le_mul_of_pos_left _ (XB zf)
      exact qD (QW _ h5) h4
     have:=sf (b:=65536) zf h3;have:=z.o;omega)
    rw [qH];omega
   obtain⟨dd,G⟩:∃v,y / 65536^j%65536=v:=⟨_,rfl⟩;rw [G] at t i B;have S1:=zj wr (λw' h=>show Calls prog 134 #[.slice A' n' c',.int .i64 16] w' (vu w' (x*(y / 65536^(j+1))*2^16)) from Xr (x*(y / 65536^(j+1))) 16 A' n' c' w' (hO.o.below h) za za);have S2:=zj wr (λw' h=>show Calls prog 135 #[.slice A n c,.int .i64 dd,.int .i64 0] w' (vu w' (x*dd+0)) from aB x dd 0 A n c w' ((HA.o _ hB).below h) za i zf);have S3:=(λw' (h:Below wr.heap.size wr w') A1 n1 c1 A2 n2 c2 (h1:zE w' (x*(y / 65536^(j+1))*2^16) A1 n1 c1) (h2:zE w' (x*dd+0) A2 n2 c2)=>Xq _ _ A1 A2 n1 n2 c1 c2 w' h1 h2 (by have:=J h1;omega) (by rw [h2.len,XX];have:=Yw (x:=x) (y:=dd) (n:=n) (m:=1) (by have:=u.o;omega) (wP zf _ _ (by simpa using i));omega));rw [B] at S3;have O:=zb S3;clear S3 B G i J;obtain⟨s1,s2⟩:(0:Int)<=(j:Int)/\(j:Int)<(m:Int):=za;go_wp2_with fail;have C:Below wr.heap.size wr wr.drew:=(qZ _ wr).drew;have F:wr.drew.cell? (ad.add j)=some (.int .i64 dd):=t
   go_region_held3 (fun w' => Below wr.heap.size wr w' ∧ w'.cell? (ad.add j) = some (.int .i64 dd))
    (first|(exact⟨C,F⟩)|(go_split_ands;refine⟨?_,?_⟩;all_goals (first|exact zl|exact zc zl hb|exact zq hb zl)))
    (first
      |(go_at_call 134;(with_reducible refine(S1.o _ (by first|exact zl|exact XO zl)).mono ?_);intro e w' hg;obtain⟨A8,n8,c8,rfl,a,hb⟩:=hg.elim;clear hg)
      |(go_at_call 135;(with_reducible refine(S2.o _ (by first|exact zl|exact XO zl)).mono ?_);intro e w' hg;obtain⟨A9,n9,c9,rfl,I,hb⟩:=hg.elim;have a:=a.below hb;clear hg)
      |(go_at_call 133;(with_reducible refine(O.o _ (by first|exact zl|exact XO zl) _ _ _ _ _ _ a I).mono ?_);intro e w' hg;obtain⟨A7,n7,c7,rfl,H,hb⟩:=hg.elim;clear hg))
   rename_i hH
   obtain⟨E,_⟩:=hH;have N:=zc hB E;have HN:=zb H;clear hb C E H a I F;go_wp2;go_roundg (j+1)
   case measure=>omega
   case rel=>exact⟨j,_,_,_,za,za,by go_num,rfl,HN,N⟩
def jC (w:World)(x:Nat)(e:Ending)(w':World):Prop:=∃(A:ze) (n c:Nat),e=.returned (.slice A n c)/\zE w' x A n c/\Below w.heap.size w w'
theorem Nz (w:World)(g:Nat)(h:zh w g 3 #[.int .i64 1]):zE w 1 (some ⟨g,0,none⟩) 1 1:=by
 have e:dg 65536 1=[1]:=by
  rw [js zf zf];rfl
 refine⟨?_,qX _,za⟩;rw [e];refine⟨rfl,λ_=>⟨_,rfl,h.lt,λj u hu=>?_⟩⟩
 match j,hu with
 |0,hu=>simp [zt] at hu;subst hu;exact h.cell 0
def Fr (w:World)(A:ze):Prop:=∀ad,A=some ad->w.heap.size<=ad.block
theorem Fr.from_ {A:ze}(h:Fr w' A)(hb:Below w.heap.size w w'):Fr w A:=λad e=>qD hb.size (h ad e)
theorem vu.elim2 {e:Ending}(h:vu w x e w'):∃(A:ze) (n c:Nat),e=.returned (.slice A n c)/\zE w' x A n c/\Fr w A/\Below w.heap.size w w':=by
 obtain⟨A,c,rfl,hr,h1,⟨h2,hf⟩,h3⟩:=h;exact⟨A,_,c,rfl,⟨hr,h1,h2⟩,hf,h3⟩
def VX (w:World)(q r:Nat)(e:Ending)(w':World):Prop:=∃(A:ze) (n c:Nat) (B:ze) (m d:Nat),e=.returned (.tuple #[.slice A n c,.slice B m d])/\zE w' q A n c/\Fr w A/\zE w' r B m d/\Below w.heap.size w w'
theorem jN {b:Nat}(hb:b<2)(h:m%y*2+b<y):(m+m+b) / y=m / y*2+0/\(m+m+b)%y=m%y*2+b:=by
 have h1:=XL m y;have e:m+m+b=y*(m / y*2)+(m%y*2+b):=by rw [qB (m / y) 2,Nat.mul_left_comm];omega
 rw [e,Nat.mul_add_div za,Nat.mul_add_mod,QB h,qS h];exact⟨rfl,rfl⟩
theorem mg {b:Nat}(hy:y≠0)(hb:b<2)(h:y<=m%y*2+b):(m+m+b) / y=m / y*2+0+1/\(m+m+b)%y=m%y*2+b - y:=by
 have h1:=XL m y;have h2:=QA m (y:=y) za;have h3:m%y*2+b - y<y:=za;have e:m+m+b=y*(m / y*2+1)+(m%y*2+b - y):=by rw [qM,qB (m / y) 2,Nat.mul_left_comm];omega
 rw [e,Nat.mul_add_div za,Nat.mul_add_mod,QB h3,qS h3];exact⟨rfl,rfl⟩
theorem Tv (x y:Nat):decide (0<=yg x y)=decide (y<=x):=by
 rw [Bool.eq_iff_iff];simp only [decide_eq_true_eq];unfold yg
 split
 ·omega
 ·split<;>omega
theorem Vf (x y:Nat)(A D:ze)(n m c d:Nat)(w:World)(hA:zE w x A n c)(hD:zE w y D m d)(hn:n<=17179869184)(hm:m<=17179869184)(hy:y≠0):
  Calls prog 132 #[.slice A n c,.slice D m d] w (VX w (x / y) (x%y)):=by
 have ah:=zb hA.len;have ai:=zb hD.len;have HA:=zj w (λw' hb=>hA.below hb);have HD:=zj w (λw' hb=>hD.below hb);have RB:=Uw x A n c w hA za;have ag:bitLen x<=16*n:=by
  have h1:=yv (b:=65536) zf x;rw [<-hA.len,show(65536:Nat)=2^16 from rfl,<-yL] at h1;exact iE _ _ h1
 have h0:x / 2^bitLen x=0:=QB (mH x);obtain⟨l,hl⟩:∃l,bitLen x=l:=⟨_,rfl⟩;rw [hl] at RB ag h0;have ab:=zb RB;have H0:=zb h0;clear hA hD RB hl h0;go_enter func132,ntmps132;go_wp2_with fail;refine ab.o.mono ?_;rintro e w' ⟨rfl,rfl⟩;go_wp2_with fail
 go_loopg [6,7,8] (l+1) (λg qs rs ix wr=>∃(j:Nat) (A1:ze) (n1 c1:Nat) (A2:ze) (n2 c2:Nat),j<=l/\j<g/\ix=.int .i64 ((j:Int) - 1)/\qs=.slice A1 n1 c1/\rs=.slice A2 n2 c2/\zd (zE wr (x / 2^j / y) A1 n1 c1)/\zd (zE wr (x / 2^j%y) A2 n2 c2)/\Below w.heap.size w wr/\zd (Fr w A1))
 case atStart=>
  refine⟨l,none,0,0,none,0,0,qX _,za,rfl,rfl,rfl,?_,?_,qZ _ _,λad e=>by cases e⟩
  ·show zE _ _ _ _ _;rw [H0.o,Nat.zero_div];exact Yq _
  ·show zE _ _ _ _ _;rw [H0.o,Nat.zero_mod];exact Yq _
 case round=>
  obtain⟨j,A1,n1,c1,A2,n2,c2,hjl,hg,rfl,rfl,rfl,hq,hr,hB,hF⟩:=hrel;by_cases hj:j=0
  ·subst hj;have e1:=hq.o;have e2:=hr.o;rw [XM,Nat.div_one] at e1 e2;have HG:zd (VX w (x / y) (x%y) (.returned (.tuple #[.slice A1 n1 c1,.slice A2 n2 c2])) wr):=⟨_,_,_,_,_,_,rfl,e1,hF.o,e2,hB⟩;clear hq hr e1 e2 hF;go_wp2
   go_ret2
   exact HG.o
  ·obtain⟨i,rfl⟩:∃i,j=i+1:=⟨j - 1,za⟩;have hqn:n1<=n:=by
    rw [hq.o.len,ah.o];exact sf zf (qD (QI _ _) (QI _ _))
   have hrn:n2<=m:=by
    rw [hr.o.len,ai.o];exact sf zf (QK (QA _ za))
   have a:x / 2^i%2<2:=QA _ zf;have o:=ou x i;have WB:=p6 x i A n c wr (HA.o _ hB) za za;obtain⟨M,hM⟩:∃M,x / 2^(i+1)=M:=⟨_,rfl⟩;obtain⟨b,hb⟩:∃b,x / 2^i%2=b:=⟨_,rfl⟩;rw [hM] at hq hr o;rw [hb] at o a WB;have S1:=aB (M%y) 2 b A2 n2 c2 wr hr.o za zf za;have ac:=zb WB;have I:=zb S1;have N:=zb o;have hr1:(dg 65536 (M%y*2+b)).length<=n2+1:=by
    refine wP zf _ _ ?_;have h1:=yv (b:=65536) zf (M%y);rw [<-hr.o.len] at h1;rw [qO];omega
   have hq1:(dg 65536 (M / y*2+0)).length<=n1+1:=by
    refine wP zf _ _ ?_;have h1:=yv (b:=65536) zf (M / y);rw [<-hq.o.len] at h1;rw [qO];omega
   clear WB S1 hM hb hr o;go_wp2_with fail;refine ac.o.mono ?_;rintro e w' ⟨rfl,rfl⟩;go_wp2_with fail;refine I.o.mono ?_;intro e w1 S;obtain⟨A3,n3,c3,rfl,E,t⟩:=S.elim;have O:=zc hB t;have hn3:n3<=m+1:=by rw [E.len];omega
   have J:=zb (aB (M / y) 2 0 A1 n1 c1 w1 (hq.o.below t) za zf zf);have H3:=zb E;clear S E t hq I;go_wp2_with fail;refine J.o.mono ?_;intro e w2 T;obtain⟨A4,n4,c4,rfl,F,Q,u⟩:=T.elim2;have k:=zc O u;have Z:=zb (Q.from_ O);have hn4:n4<=n+1:=by rw [F.len];omega
   have H3:=zb (H3.o.below u);have H4:=zb F;have H:=zb (cM (M%y*2+b) y A3 D n3 m c3 d w2 H3.o (HD.o _ k) za za);clear T F u J Q hF;go_wp2_with fail;refine H.o.mono ?_;rintro e w3 ⟨rfl,q,rfl⟩;clear H;by_cases hlt:M%y*2+b<y
   ·have hd:decide (yg (M%y*2+b) y>=0)=false:=by
     show decide (0<=yg _ _)=false;rw [Tv];simp;omega
    have C:decide (0<=yg (M%y*2+b) y)=false:=hd;obtain⟨e1,e2⟩:=jN a hlt;rw [<-N.o] at e1 e2;have HQ:zd (zE (w2.drewN q) (x / 2^i / y) A4 n4 c4):=by show zE _ _ _ _ _;rw [e1];exact H4.o
    have HR:zd (zE (w2.drewN q) (x / 2^i%y) A3 n3 c3):=by show zE _ _ _ _ _;rw [e2];exact H3.o
    have s:=uY k q;obtain⟨z,hz⟩:∃z,yg (M%y*2+b) y=z:=⟨_,rfl⟩;rw [hz] at hd C⊢;clear e1 e2 hz hlt;go_wp2;go_roundg (i+1)
    case measure=>omega
    case rel=>exact⟨i,_,_,_,_,_,_,za,za,by go_num,rfl,rfl,HQ,HR,s,Z⟩
   ·have hd:decide (yg (M%y*2+b) y>=0)=true:=by
     show decide (0<=yg _ _)=true;rw [Tv];simp;omega
    have C:decide (0<=yg (M%y*2+b) y)=true:=hd;obtain⟨e1,e2⟩:=mg hy a (by omega:y<=M%y*2+b);rw [<-N.o] at e1 e2;have K:=zb (ki (M%y*2+b) y za A3 D n3 m c3 d (w2.drewN q) H3.o (HD.o _ (uY k q)) za za);have E1:=zb e1;have E2:=zb e2;have s:=uY k q;obtain⟨z,hz⟩:∃z,yg (M%y*2+b) y=z:=⟨_,rfl⟩;rw [hz] at hd C⊢;clear e1 e2 hz hlt;go_wp2_with fail;refine K.o.mono ?_;intro e w4 U;obtain⟨A5,n5,c5,rfl,X,v⟩:=U.elim;have ae:=zc s v;have G:zE (w2.drewN q) (M / y*2+0) A4 n4 c4:=H4.o;have st:=fi w4 (.cells #[.int .i64 1] 3);have h1:=Nz _ _ (zh.new w4 3 #[.int .i64 1]);have L:=zb (Xq (M / y*2+0) 1 A4 (some ⟨w4.heap.size,0,none⟩) n4 1 c4 1 _ ((G.below v).below st) h1 za za);have H5:=zb (X.below st);have P:=zc ae st;clear U X v K G h1 st;go_wp2_with fail;refine L.o.mono ?_;intro e w5 V;obtain⟨A6,n6,c6,rfl,Y,R,B⟩:=V.elim2;have af:=zc P B;have aa:=zb (R.from_ P);have HQ:zd (zE w5 (x / 2^i / y) A6 n6 c6):=by show zE _ _ _ _ _;rw [E1.o];exact Y
    have HR:zd (zE w5 (x / 2^i%y) A5 n5 c5):=by show zE _ _ _ _ _;rw [E2.o];exact H5.o.below B
    clear V Y B L R;go_wp2;go_roundg (i+1)
    case measure=>omega
    case rel=>exact⟨i,_,_,_,_,_,_,za,za,by go_num,rfl,rfl,HQ,HR,af,aa⟩
theorem RQ (x y:Nat)(A D:ze)(n m c d:Nat)(w:World)(hA:zE w x A n c)(hD:zE w y D m d)(hn:n<=1073741824)(hm:m<=1073741824):
  Calls prog 131 #[.slice A n c,.slice D m d] w (jC w (Nat.gcd x y)):=by
 by_cases hx:x=0
 ·have e:n=0:=by rw [hA.len,hx,oW];rfl
  have HD:=zb hD;have hg:Nat.gcd x y=y:=by rw [hx,XI]
  rw [hg];subst e;clear hA hD hx hg;go_enter func131,ntmps131;go_wp2;go_ret;exact⟨D,m,d,rfl,HD.o,qZ _ _⟩
 ·by_cases hy:y=0
  ·have e:m=0:=by rw [hD.len,hy,oW];rfl
   have a:=dZ hA hx;have z1:((n:Int)==0)=false:=by simp;omega
   have HA:=zb hA;have hg:Nat.gcd x y=x:=by rw [hy,Nat.gcd_zero_right]
   rw [hg];subst e;clear hA hD hx hy hg a;go_enter func131,ntmps131;go_wp2;go_ret;exact⟨A,n,c,rfl,HA.o,qZ _ _⟩
  ·refine(p7 x y A D n m c d w hA hD hn hm hx hy).mono λe w' hg=>?_;obtain⟨A',n',c',he,hh,hb⟩:=hg.elim;exact⟨A',n',c',he,hh,hb⟩
