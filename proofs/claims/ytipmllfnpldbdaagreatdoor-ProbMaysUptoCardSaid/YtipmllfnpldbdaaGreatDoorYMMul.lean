/- What this claim leans on. -/
import Derived.Test.YtipmllfnpldbdaaGreatDoorYPStd
set_option linter.unusedVariables false
set_option linter.unusedSimpArgs false
namespace Go.Proofs.YtipmllfnpldbdaaGreatDoor
open Go Go.RowKit Go.Proofs.Tryz
set_option maxHeartbeats 16000000
set_option maxRecDepth 100000
variable {t:Bool}{x xs:List Rat}{K c d9:Nat}{w:World}{A D:zf}
theorem WG (M:List (List Rat))(v:List Rat):(uf M v).length=M.length:=by simp [uf]
theorem WF {M:List (List Rat)}{v:List Rat}{i:Nat}(h:i<M.length):(uf M v)[i]?=some (wR (M.getD i []) v):=by
 unfold uf;rw [QB,qQ,qZ h];rfl
section
variable {K K':Nat}{w:World}
theorem tX {n k q:Nat}{Q:zf}{Ls:List (List Rat)}(hT:zv w)(h:wf (yf zu) w Q n Ls)(hd:∀L ∈ Ls,L.length=k)(hv:zF w A k c xs)(z:wO K Ls)(zx:zI K' xs)(hn:n<=64:=by omega)(hk:k<=64:=by omega)(hK:K<=67108864:=by omega)(N:K'<=67108864:=by omega)(hS:1+k*(K+K'+1)<=67108864:=by omega):
  Calls prog 74 #[.slice Q n q,.slice A k c] w (mg w n (uf Ls xs)):=by
 have hl:=h.len;have HR:=zd h;have HV:=zd hv;have HT:=zn w (λw' hb=>hT.on hb);have HZ:zg (∀i,i<n->zI K (Ls.getD i [])):=λi hi=>z.row za;have HD:zg (∀i,i<n->(Ls.getD i []).length=k):=λi hi=>hd _ (QN (nV za));have HX:=zd zx;have u:zg ((uf Ls xs).length=n):=by show _=_;rw [WG];exact hl
 have HG:zg (∀i,i<n->(uf Ls xs)[i]?=some (wR (Ls.getD i []) xs)):=λi hi=>WF za;have M:=zd hS;obtain⟨ys,G⟩:∃ys,uf Ls xs=ys:=⟨_,rfl⟩;rw [G] at u HG⊢;obtain⟨Z,hZ⟩:=oG n za;have R:=λW=>(hZ W).1;have m:=zd (λW=>(hZ W).2);clear hT h hd hv z zx hl G hZ hS;unfold mg;have i0:(0:Int)<=(n:Int):=za;go_enter func74,ntmps74;go_wp2_with fail;clear R;have a:=m.o w;have hB:Below w.heap.size w (w.alloc (.cells Z 60)):=(qY _ w).alloc (qX _) _;obtain⟨gp,C⟩:∃g,w.heap.size=g:=⟨_,rfl⟩;have F:w.heap.size<=gp:=za;rw [C] at a⊢;rw [<-pU 0 ys n] at a;generalize w.alloc (.cells Z 60)=W1 at*;clear C m
 go_loopg [13] (n+1) (λg ix wr=>∃(k:Nat),k<=n/\n<g+k/\ix=.int .i64 k/\yk wr gp n (wD 0 ys n k)/\Below w.heap.size w wr)
 case atStart=>exact⟨0,xQ _,za,rfl,a,hB⟩
 case round=>
  clear a hB;obtain⟨i,hkn,hg,rfl,a,hB⟩:=hrel;by_cases hlt:i<n
  ·obtain⟨ad,B,d,rfl,-,hc,D⟩:=HR.o.get (vK y6) hB hlt (HD.o i hlt);have O:decide ((i:Int)<(n:Int))=true:=decide_eq_true za;have i1:(0:Int)<=(i:Int):=za;have i2:(i:Int)<(n:Int):=za;have t:=zd a;have y:=zd D;have j:=zd hB;clear D a hB;go_wp2_with fail;(with_reducible refine(aR (HT.o _ j.o) y.o (HV.o.keep j.o) (HZ.o i hlt) HX.o za hK N M.o).mono ?_);rintro e w3 ⟨b3,A3,n3,c3,E3,k3,f3,rfl,E,hb⟩;clear hc;have v:=t.o.keep hb;have x:=yF.set_ y6 v hlt E;rw [pW 0 ys n i u.o hlt _ (HG.o i hlt)] at x;obtain⟨q0,q1,q2,sc0,sf0,sc1,sf1,sc2,sf2⟩:=v.ready hlt (.bool b3) (.slice A3 n3 c3);have I:=zd x;have H:=zd (pS (i*3) (i*3+1) (i*3+2) (.bool b3) (.slice A3 n3 c3) (.slice E3 k3 f3) F (ze j.o hb));clear v x hb E t j y;go_wp2;go_roundg (n - i)
   case measure=>omega
   case rel=>exact⟨i+1,za,za,by go_num,I.o,H.o⟩
  ·have P:i=n:=za;subst P;have O:decide ((i:Int)<(i:Int))=false:=zD;have J:=zd (pV 0 ys i u.o▸a);have j:=zd hB;clear a hB;go_wp2;go_ret;exact⟨gp,rfl,F,J.o,j.o⟩
variable {A:zf}{n c m:Nat}{MM:List (List Rat)}
variable {V:zf}{k cv:Nat}{xs:List Rat}
theorem Uj (hT:zv w)(h:xo w A n c m MM)(hv:zF w V m cv xs)(z:wO K MM)(zx:zI K' xs)(hK:K<=67108864:=by omega)(j:K'<=67108864:=by omega)(hS:1+m*(K+K'+1)<=67108864:=by omega):
  Calls prog 33 #[.agg #[.slice A n c,.int .i64 (m:Int)],.slice V m cv] w (nQ w n (uf MM xs)):=by
 have e0:((m:Int) !=(m:Int))=false:=zD;obtain⟨a,d,bz⟩:=zG w 30 #[.slice A n c,.int .i64 (m:Int)];obtain⟨g0,g1⟩:=d.c2;have HD:=zd (tX (q:=c) (hT.on a) (h.keep a).rows h.dims.cols (hv.keep a) z zx h.hn h.hm hK j hS);have HB:=zd a;clear h a d bz hT hv z zx;unfold nQ;go_enter func33,ntmps33;go_wp2_with fail;refine HD.o.mono ?_;rintro e w5 ⟨g5,rfl,g,i,hb⟩;have HG:=zd (And.intro (qC HB.o.size g) (And.intro i (ze HB.o hb)));clear g0 g1 g i hb;go_wp2
 go_ret2
 exact⟨g5,rfl,HG.o⟩
end
set_option maxHeartbeats 4000000
def uC (p:PR)(x:List Rat):Bool:=decide (p.co.length=x.length)&&(if p.kd=1 then decide (uq (uG p x)<=0) else if p.kd=2 then decide (0<=uq (uG p x)) else if p.kd=3 then decide (uG p x=0) else false)
theorem pu {K' n:Nat}{p:PR}(hl:p.co.length=n)(z:zI K p.co)(zr:zt K p.rhs)(zx:zI K' xs):zt (2+n*(K+K'+1)+K) (uG p xs):=by
 unfold uG;by_cases h:p.co.length=xs.length
 ·rw [if_pos h];exact((fk hl za z zx).sub zr).up za
 ·rw [if_neg h];exact zt.zero.up za
section
variable {K K':Nat}{p:PR}{xs:List Rat}{C X:zf}{n n' c d:Nat}{w:World}{b:Bool}{B E:zf}{m e9 u v:Nat}
theorem VP (ht:uC p xs=t)(hT:zv w)(h:zF w C n c p.co)(hr:zu w p.rhs b B m e9 E u v)(hx:zF w X n' d xs)(z:zI K p.co)(zr:zt K p.rhs)(zx:zI K' xs)(hn:n<=1073741824:=by omega)(hS:2+n*(K+K'+1)+K<=67108864:=by omega)(H:K'<=67108864:=by omega):
  Calls prog 28 #[.agg #[.slice C n c,.int .i64 p.kd,.bool b,.slice B m e9,.slice E u v],.slice X n' d] w (λe w'=>e=.returned (.bool t)/\Below w.heap.size w w'):=by
 obtain⟨ok,e⟩:∃ok,decide (p.co.length=xs.length)=ok:=⟨_,rfl⟩;obtain⟨g,F,bz⟩:=zG w 83 #[.slice C n c,.int .i64 p.kd,.bool b,.slice B m e9,.slice E u v];obtain⟨g0,g1,g2,g3,g4⟩:=F.c5;have HO:=zd (lS e (hT.on g) (h.keep g) (hr.below g) (hx.keep g) z zr zx hn za za H);have HZ:=zd (pu h.len z zr zx);have HT:=zd (λW (hb:Below w.heap.size w W)=>hT.on hb);have HB:=zd g;have HS:=zd hS;clear hT h hr hx z zr zx g F bz hS;unfold uC at ht;rw [e] at ht;generalize uG p xs=q at*;obtain⟨kd,G⟩:∃kd,p.kd=kd:=⟨_,rfl⟩;rw [G] at ht g0 g1 g2 g3 g4 HO HB⊢;clear e G;cases ok with
 |false=>
   have HE:=zd ht;clear ht HS HZ HT;go_enter func28,ntmps28;go_wp2_with fail;refine HO.o.mono ?_;rintro e w1 ⟨b1,A1,n1,c1,E1,k1,f1,rfl,j,hb⟩;obtain⟨st,d3,d4⟩:=zG w1 60 #[.bool b1,.slice A1 n1 c1,.slice E1 k1 f1];have a:=zd (ze (ze HB.o hb) st);clear HO HB j hb st d3 d4 g0 g1 g2 g3 g4;go_wp2;go_ret;exact⟨by rw [<-HE.o];rfl,a.o⟩
 |true=>
   obtain⟨s,hs⟩:∃s,uq q=s:=⟨_,rfl⟩;have A:=zd hs;obtain⟨zb,y⟩:∃z,decide (q=0)=z:=⟨_,rfl⟩;have D:=zd y;rw [hs,y,Bool.true_and] at ht;clear hs y;go_enter func28,ntmps28;go_wp2_with fail;refine HO.o.mono ?_;rintro e w1 ⟨b1,A1,n1,c1,E1,k1,f1,rfl,j,hb⟩;obtain⟨st,d3,d4⟩:=zG w1 60 #[.bool b1,.slice A1 n1 c1,.slice E1 k1 f1];obtain⟨p0,p1,p2⟩:=d3.c3;have q1:=zq st (zq hb g1);have x:=ze (ze HB.o hb) st;have HG:=zd (fe A.o (HT.o _ x) (j.below st) HZ.o HS.o);have HH:=zd (ff D.o (HT.o _ x) (j.below st) HZ.o HS.o);have a:=zd x;clear HO HB HT HZ HS j hb st d3 d4 g0 g1 g2 g3 g4 x A D;by_cases k1:kd=1
   ·have t1:(kd==1)=true:=by simp [k1]
    have HE:=zd ((if_pos k1).symm.trans ht);clear ht k1 HH;go_wp2_with fail;refine HG.o.mono ?_;rintro e w3 ⟨rfl,hb⟩;have i:=zd (ze a.o hb);clear hb HG a p0 p1 p2 q1 t1;go_wp2;go_ret;exact⟨by rw [<-HE.o];rfl,i.o⟩
   ·have t1:(kd==1)=false:=by simp [k1]
    rw [if_neg k1] at ht;by_cases k2:kd=2
    ·have t2:(kd==2)=true:=by simp [k2]
     have HE:=zd ((if_pos k2).symm.trans ht);clear ht k1 k2 HH;go_wp2_with fail;refine HG.o.mono ?_;rintro e w3 ⟨rfl,hb⟩;have i:=zd (ze a.o hb);clear hb HG a p0 p1 p2 q1 t1 t2;go_wp2;go_ret;exact⟨by rw [<-HE.o];rfl,i.o⟩
    ·have t2:(kd==2)=false:=by simp [k2]
     rw [if_neg k2] at ht;by_cases k3:kd=3
     ·have t3:(kd==3)=true:=by simp [k3]
      have HE:=zd ((if_pos k3).symm.trans ht);clear ht k1 k2 k3 HG;go_wp2_with fail;refine HH.o.mono ?_;rintro e w3 ⟨rfl,hb⟩;have i:=zd (ze a.o hb);clear hb HH a p0 p1 p2 q1 t1 t2 t3;go_wp2;go_ret;exact⟨by rw [<-HE.o];rfl,i.o⟩
     ·have t3:(kd==3)=false:=by simp [k3]
      rw [if_neg k3] at ht;have HE:=zd ht;clear ht k1 k2 k3 HG HH;go_wp2;go_ret;exact⟨by rw [<-HE.o];rfl,a.o⟩
end
def tA (P:PB)(x:List Rat):Bool:=decide (x.length=P.cost.length)&& !(rL x)&&P.rows.all (uC · x)
theorem tc {ps:List PR}{k:Nat}(hk:k<ps.length):(ps.take (k+1)).all (uC · x)=((ps.take k).all (uC · x)&&uC (ps.getD k zN) x):=by
 rw [QJ hk,List.all_append,qQ,qZ hk];simp
theorem oS {ps:List PR}{k:Nat}(hk:k<ps.length)(h:uC (ps.getD k zN) x=false):ps.all (uC · x)=false:=by
 rw [qQ,qZ hk] at h;rw [List.all_eq_false];exact⟨ps[k],xM hk,by simpa using h⟩
theorem VB {K K' N:Nat}{X:zf}{n' d:Nat}{P:PB}{k:Nat}{n q:Nat}(ht:tA P xs=t)(hT:zv w)(h:ub w D k d9 A n q P)(hx:zF w X n' d xs)(z:p6 K P.rows)(zl:jr N P.rows)(zx:zI K' xs)(Y:n'<=1073741824:=by omega)(hN:N<=1073741824:=by omega)(hS:2+N*(K+K'+1)+K<=67108864:=by omega)(Q:K'<=67108864:=by omega):
  Calls prog 30 #[.agg #[.slice D k d9,.slice A n q],.slice X n' d] w (λe w'=>e=.returned (.bool t)/\Below w.heap.size w w'):=by
 have T:=hx.len;have S:=h.cost.len;have L:=h.rows.len;have hn9:n<=9223372036854775807:=qC h.fits h.most;obtain⟨y,J,bz⟩:=zG w 42 #[.slice D k d9,.slice A n q];obtain⟨g0,g1⟩:=J.c2;have x:=zd (Wi (t:=rL xs) rfl (hT.on y) (hx.keep y) zx Y Q);have HW:=zd (λW (hb:Below w.heap.size w W) (i:Nat) (hi:i<n)=>h.rows.get hb hi);have HH:=zd (λW (hb:Below w.heap.size w W) (i:Nat) (hi:i<n) (t:Bool) (e:uC (P.rows.getD i zN) xs=t) (C:zf) (c:Nat) (b:Bool) (B:zf) (m e9:Nat) (E:zf) (u v:Nat) (h1:zF W C (P.rows.getD i zN).co.length c (P.rows.getD i zN).co) (h2:zu W (P.rows.getD i zN).rhs b B m e9 E u v)=>
  VP e (hT.on hb) h1 h2 (hx.keep hb) (z.at_ (i:=i) za).1 (z.at_ (i:=i) za).2 zx (qC (zl.at_ (i:=i) za) hN) (by
   have h3:=zl.at_ (i:=i) za;have h4:=QK (K+K'+1) h3;omega) Q)
 have HB:=zd y;have i0:(0:Int)<=(n:Int):=za;have M:=zd L;unfold tA at ht;by_cases hl:n'=k
 ·subst hl;rw [decide_eq_true (show xs.length=P.cost.length by omega),Bool.true_and] at ht;have e0:((n':Int) !=(n':Int))=false:=zD;obtain⟨bl,R⟩:∃b,rL xs=b:=⟨_,rfl⟩;rw [R] at x ht;clear hT h hx z zl zx y J bz T S L R hS;cases bl with
  |true=>
    have HE:=zd ht;clear ht HH HW;go_enter func30,ntmps30;go_wp2_with fail;refine x.o.mono ?_;rintro e w1 ⟨rfl,hb⟩;have a:=zd (ze HB.o hb);clear hb HB x g0 g1;go_wp2;go_ret;exact⟨by rw [<-HE.o];rfl,a.o⟩
  |false=>
    have HE:=zd ht;clear ht;go_enter func30,ntmps30;go_wp2_with fail;refine x.o.mono ?_;rintro e w1 ⟨rfl,hb⟩;have O:=ze HB.o hb;obtain⟨g0,g1⟩:=zX hb g0 g1;clear hb HB x;go_wp2_with fail;clear g0 g1
    go_loopg [20] (n+1) (λg ix wr=>∃(k:Nat),k<=n/\n<g+k/\ix=.int .i64 k/\zg ((P.rows.take k).all (uC · xs)=true)/\Below w.heap.size w wr)
    case atStart=>exact⟨0,xQ _,za,rfl,rfl,O⟩
    case round=>
     clear O;obtain⟨j,hjn,hg,rfl,G,hB⟩:=hrel;by_cases hlt:j<n
     ·obtain⟨ad,rfl,-,C,c,b,B,m,e9,E,u,v,c0,c1,c2,c3,c4,h5,-,h7⟩:=HW.o _ hB j hlt;have V:decide ((j:Int)<(n:Int))=true:=decide_eq_true za;have i1:(0:Int)<=(j:Int):=za;have i2:(j:Int)<(n:Int):=za;obtain⟨tj,F⟩:∃t,uC (P.rows.getD j zN) xs=t:=⟨_,rfl⟩;obtain⟨st,d3,d4⟩:=zG wr 83 #[.slice C (P.rows.getD j zN).co.length c,.int .i64 (P.rows.getD j zN).kd,.bool b,.slice B m e9,.slice E u v];obtain⟨p0,p1,p2,p3,p4⟩:=d3.c5;have HJ:=zd (HH.o _ (ze hB st) j hlt tj F C c b B m e9 E u v (h5.keep st) (h7.below st));have a:=zd (ze hB st);have H:j<P.rows.length:=by have:=M.o;omega
      cases tj with
      |true=>
        have U:zg ((P.rows.take (j+1)).all (uC · xs)=true):=by
         show _=_;rw [tc H,G.o,F];rfl
        generalize (P.rows.getD j zN).co.length=n3 at*;generalize (P.rows.getD j zN).kd=kd at*;clear G hB h5 h7 st d3 d4 F H;go_wp2_with fail;refine HJ.o.mono ?_;rintro e w3 ⟨rfl,hb⟩;have I:=zd (ze a.o hb);clear hb a HJ p0 p1 p2 p3 p4 c0 c1 c2 c3 c4;go_wp2;go_roundg (n - j)
        case measure=>omega
        case rel=>exact⟨j+1,za,za,by go_num,U,I.o⟩
      |false=>
        have HF:zg (false=t):=by
         show _=_;rw [<-HE.o,oS H F];rfl
        generalize (P.rows.getD j zN).co.length=n3 at*;generalize (P.rows.getD j zN).kd=kd at*;clear G hB h5 h7 st d3 d4 F H;go_wp2_with fail;refine HJ.o.mono ?_;rintro e w3 ⟨rfl,hb⟩;have I:=zd (ze a.o hb);clear hb a HJ p0 p1 p2 p3 p4 c0 c1 c2 c3 c4;go_wp2;go_ret;exact⟨by rw [<-HF.o];rfl,I.o⟩
     ·have V:decide ((j:Int)<(n:Int))=false:=decide_eq_false za;have HF:zg (true=t):=by
       have h1:=M.o;have h2:=G.o;have h3:P.rows.take j=P.rows:=qV za;show _=_;rw [<-HE.o];rw [h3] at h2;rw [h2];rfl
      have a:=zd hB;clear G hB;go_wp2;go_ret;exact⟨by rw [<-HF.o];rfl,a.o⟩
 ·have e0:((n':Int) !=(k:Int))=true:=by rw [bne_iff_ne];omega
  have HE:zg (false=t):=by
   show _=_;rw [<-ht,decide_eq_false (show ¬ xs.length=P.cost.length by omega)];rfl
  clear hT h hx z zl zx y J bz T S L ht hS HH HW x hl;go_enter func30,ntmps30;go_wp2;go_ret;exact⟨by rw [<-HE.o];rfl,HB.o⟩
def iL (w:World)(er:Er)(e:Ending)(w':World):Prop:=∃(A:zf) (n c:Nat) (z:Int) (B:zf) (nb cb:Nat) (C:zf) (nc cc:Nat) (o:Int) (L:zf) (nl cl:Nat) (v:Value),e=.returned (.tuple #[.agg #[.slice A n c,.int .i64 z,.slice B nb cb,.slice C nc cc,.int .i64 o,.slice L nl cl],v])/\uj w' er v/\Below w.heap.size w w'
theorem tz {w':World}{er:Er}{v:Value}{g:Nat}{t:TypeId}{n:Nat}{b c2 d e f:Value}(h:uj w er v)(hk:zi w g t #[.slice A n c,b,c2,d,e,f])(ho:xe g w w'):uj w' er v:=by
 cases er with
 |no=>exact h
 |bare n=>exact h
 |spot n s k=>
   obtain⟨fb,e,h1,h2,h3⟩:=h;have a:fb≠g:=λhf=>by
    subst hf;have h4:=hk.cell 0;rw [h1] at h4;cases h4
   exact⟨fb,e,(ho.2 _ a).trans h1,(ho.2 _ a).trans h2,(ho.2 _ a).trans h3⟩
theorem ZJ {P:PB}{k:Nat}{n q:Nat}(hm:xu P≠.no)(h:ub w D k d9 A n q P):
  Calls prog 10 #[.agg #[.slice D k d9,.slice A n q]] w (iL w (xu P)):=by
 obtain⟨a,d,g,bz⟩:=yb w 42 35 #[.slice D k d9,.slice A n q] #[.slice none 0 0,.int .i64 0,.slice none 0 0,.slice none 0 0,.int .i64 0,.slice none 0 0];obtain⟨g0,g1⟩:=d.c2;have HM:=zd (iK (h.keep a));have HB:=zd a;have HR:=zd g;have HN:=zd hm;clear h hm a d g bz;generalize xu P=er at*;go_enter func10,ntmps10;go_wp2_with fail;generalize (w.alloc (.cells #[.slice D k d9,.slice A n q] 42)).alloc (.cells #[.slice none 0 0,.int .i64 0,.slice none 0 0,.slice none 0 0,.int .i64 0,.slice none 0 0] 35)=W1 at*;refine HM.o.mono ?_;rintro e w2 ⟨v2,rfl,he,hb⟩;obtain⟨t,x,rfl⟩:=he.ne HN.o;have hnn:=λw=>nY t x w;have hr:=zj hb HR.o;obtain⟨sc0,sf0,sc1,sf1,sc2,sf2,sc3,sf3,sc4,sf4,sc5,sf5⟩:=oA hr (.slice none 0 0) (.int .i64 0) (.slice none 0 0) (.slice none 0 0) (.int .i64 0);obtain⟨z0,z1,z2,z3,z4,z5⟩:=(jX hr (.slice none 0 0) (.int .i64 0) (.slice none 0 0) (.slice none 0 0) (.int .i64 0) (.slice none 0 0)).c6;have HG : zg (iL w er (.returned (.tuple #[.agg #[.slice none 0 0,.int .i64 0,.slice none 0 0,.slice none 0 0,.int .i64 0,.slice none 0 0],.iface t x])) (uL w2 (w.heap.size + 1) (.slice none 0 0) (.int .i64 0) (.slice none 0 0) (.slice none 0 0) (.int .i64 0) (.slice none 0 0))) :=
  ⟨_,_,_,_,_,_,_,_,_,_,_,_,_,_,_,rfl,tz he hr (nB _ _ _ _ _ _ _ _),jI _ _ _ _ _ _ za (ze HB.o hb)⟩
 unfold uL at z0 z1 z2 z3 z4 z5;clear he hb hr HB HR HM HN g0 g1;go_wp2;refine bodyPost_ret (v:=.tuple #[.agg #[.slice none 0 0,.int .i64 0,.slice none 0 0,.slice none 0 0,.int .i64 0,.slice none 0 0],.iface t x]) (by simp [results,results10,go_sem,z0,z1,z2,z3,z4,z5]) rfl ?_;exact HG.o
theorem Zx {P:PB}{k:Nat}{n q:Nat}(hT:zv w)(h:ub w D k d9 A n q P)(z:p6 K P.rows)(zc:zI K P.cost)(hK:K+4<=67108864:=by omega):
  Calls prog 10 #[.agg #[.slice D k d9,.slice A n q]] w (iL w (xu P)):=by
 by_cases hm:xu P=.no
 ·rw [hm];refine(fQ hm hT h z zc hK).mono ?_;rintro e w' ⟨A,c,B,cB,C,cC,gL,cL,rfl,-,hb⟩;exact⟨_,_,_,_,_,_,_,_,_,_,_,_,_,_,_,rfl,rfl,hb⟩
 ·exact ZJ hm h
