/- What this claim leans on. -/
import Derived.Test.YtcojjcjgbepicaaGreatDoorHVArgs
import Derived.Test.YtcojjcjgbepicaaGreatDoorHVApp
namespace Go.Proofs.YtcojjcjgbepicaaGreatDoor
open Go Go.RowKit Go.Proofs.Tryz
open Go.ChangeShapes Go.WideShapes Go.ChangeAt Go.Deep
set_option maxHeartbeats 16000000
set_option linter.unusedVariables false
theorem zgw {H:Type}{f:TypeId×Value->H}{P:Program}{W:World}{b:Nat}{t9 t0 t:TypeId}{f0 f1:Field}{v:Value}{x:DataW H×List MemPlace}
  (d:P.underlying t9=some (.slice t0)) (g:P.cellsOf t0=1) (ht:P.underlying t0=some (.slice t)) (hs:P.underlying t=some (.struct #[f0,f1])) (hf:(f0.offset,P.cellsOf f0.type,f1.offset,P.cellsOf f1.type)=(0,1,1,1)) (hC:P.cellsOf t=2) (h0:P.underlying f0.type=some (.int .i64)) (h1:P.underlying f1.type=some (.int .i64))
  (h:DataW.trod f P W 0 (λ_=>true) true b t9 [v]=some x) (hb:Rows.uptoBulk x.1<=1048576):∃A n c R,v=.slice A n c/\zbj W A n c R:=by
 have go:∀A n c,[v]=[Value.slice A n c]->∃A n c R,v=.slice A n c/\zbj W A n c R:=λA n c e=>by
  simp only [List.cons.injEq,and_true] at e;subst e;obtain⟨R,hR⟩:=zjL d g ht hs hf hC h0 h1 (A:=A) (n:=n) (c:=c) (by simpa [Value.cells] using h) hb;exact⟨A,n,c,R,rfl,hR⟩
 rcases open_slice d h with⟨hcs,_⟩|⟨a,len,cap,m,k,D,Pl,hcs,_⟩
 ·exact go _ _ _ hcs
 ·exact go _ _ _ hcs
theorem arg_grid {H:Type}{b:TypeId×Value->H}{P:Program}{W:World}{r:Reach}{b0:Nat}{t8 t9 t0 t:TypeId}{g0 g1 f0 f1:Field}{v:Value}{d:DataW H}{p:List MemPlace}
  (i:P.underlying t8=some (.struct #[g0,g1])) (a:oneCellFields P #[g0,g1]=true) (f:P.cellsOf t8=2) (k0:P.underlying g0.type=some (.int .u8)) (j:P.underlying g1.type=some (.slice t0)) (g:P.cellsOf t0=1) (ht:P.underlying t0=some (.slice t))
  (hs:P.underlying t=some (.struct #[f0,f1])) (hf:(f0.offset,P.cellsOf f0.type,f1.offset,P.cellsOf f1.type)=(0,1,1,1)) (hC:P.cellsOf t=2) (h0:P.underlying f0.type=some (.int .i64)) (h1:P.underlying f1.type=some (.int .i64))
  (hv:Value.okWide P W r b0 t8 v) (h:DataW.Trod b P W 0 (λ_=>true) true t8 v d p) (hb:Rows.uptoBulk d<=1048576):∃(z:Nat) (A:oA9) (n c:Nat) (R:Nat->oA9×Nat×Nat×List (Int×Int)),v=.agg #[.int .u8 (z:Int),.slice A n c]/\z<=255/\zbj W A n c R:=by
 obtain⟨v0,v1,y0,y1,n,rfl,rfl,rfl,e0,e1⟩:=Go.Joins.open_agg2 i a f hv h;obtain⟨z,hz,_,wz⟩:=DataW.trod_int k0 e0;simp only [List.cons.injEq,and_true] at hz;subst hz;have bz:=bounds_u8 wz;obtain⟨A,m,c,R,rfl,hR⟩:=zgw j g ht hs hf hC h0 h1 e1 (by simp only [Rows.uptoBulk,Rows.uptoBulkAll] at hb;omega);exact⟨z.toNat,A,m,c,R,by rw [Int.toNat_of_nonneg bz.1],om9,hR⟩
open Go Go.RowKit Go.Proofs.Tryz
set_option maxHeartbeats 16000000
set_option maxRecDepth 100000
set_option linter.unusedVariables false
set_option linter.unusedSimpArgs false
theorem zph (f:Rat->Rat->Rat)(F:FuncId)(y:Array Value)(xs ys:List Rat)(A B:oA9)(n c d:Nat)(w:World)(ha:zaL w A n c xs)(hb:zaL w B n d ys)(hn:n<=1073741824)
  (hEn:∀(args:Array Value) (w':World),Sem.run prog (callFunc F args) w'=.ok (.enter F args) w')
  (hF : ∀ i,i < n → ∀ w',Below w.heap.size w w' → ∀ (b b' : Bool) (A A' : oA9) (n n' c c' : Nat) (E E' : oA9) (k k' f9 z : Nat),zak w' (xs.getD i 0) b A n c E k f9 → zak w' (ys.getD i 0) b' A' n' c' E' k' z →
    Calls prog F (#[.agg #[.bool b,.slice A n c,.slice E k f9],.agg #[.bool b',.slice A' n' c',.slice E' k' z]]++y) w' (zaP w' (f (xs.getD i 0) (ys.getD i 0)))):
  Calls prog 102 #[.slice A n c,.slice B n d,.func (.func F) #[] y] w (zdA w n (List.zipWith f xs ys)):=by
 have I:=ha.len;have J:=hb.len;have r:(List.zipWith f xs ys).length=n:=zpT I J;unfold zdA;have o:∀i,i<n->(List.zipWith f xs ys)[i]?=some (f (xs.getD i 0) (ys.getD i 0)):=λi hi=>by
  rw [List.getElem?_zipWith,List.getD_eq_getElem?_getD,List.getD_eq_getElem?_getD,List.getElem?_eq_getElem om9,List.getElem?_eq_getElem om9];rfl
 obtain⟨zs,N⟩:∃zs,List.zipWith f xs ys=zs:=⟨_,rfl⟩;rw [N] at o r⊢;have HG:=lh9 o;have x:=lh9 r;have HF:=lh9 hF;have HA:=lh9 ha;have P:=lh9 hb;obtain⟨Z,hZ⟩:=zeL n om9;have V:=λW=>(hZ W).1;have l:=lh9 (λW=>(hZ W).2);clear hF ha hb I J r N o hZ;have hd0:((n:Int) !=(n:Int))=false:=si9;have i0:(0:Int)<=(n:Int):=om9;go_enter func102,ntmps102;go_wp2_with fail;clear V;have a:=l.out w;have hB:Below w.heap.size w (w.alloc (.cells Z 53)):=(Below.refl _ w).alloc (Nat.le_refl _) _;obtain⟨gp,p⟩:∃g,w.heap.size=g:=⟨_,rfl⟩;have M:w.heap.size<=gp:=om9;have hz:gp+1<=(w.alloc (.cells Z 53)).heap.size:=by simp [p]
 rw [p] at a⊢;rw [<-zbV 0 zs n] at a;generalize w.alloc (.cells Z 53)=W1 at*;clear p l
 go_loopg [21] (n+1) (λg ix wr=>∃(k:Nat),k<=n/\n<g+k/\ix=.int .i64 k/\zda wr gp n (zcy 0 zs n k)/\Below w.heap.size w wr)
 case atStart=>exact⟨0,Nat.zero_le _,om9,rfl,a,hB⟩
 case round=>
  clear a hB hz;obtain⟨k,hkn,hg,rfl,a,hB⟩:=hrel;by_cases hlt:k<n
  ·obtain⟨ad,b1,B1,m1,d1,E1,u1,v1,rfl,-,R,S,T,hx⟩:=HA.out.get hB hlt;obtain⟨ae,b2,B2,m2,d2,E2,u2,v2,rfl,hae,D,G,H,hy⟩:=P.out.get hB hlt;have U:decide ((k:Int)<(n:Int))=true:=by simp;omega
   have i1:(0:Int)<=(k:Int):=om9;have i2:(k:Int)<(n:Int):=om9;have hgr:=a.lt;obtain⟨st,d3,d4⟩:=zaD wr 53 #[.bool b1,.slice B1 m1 d1,.slice E1 u1 v1];have v:=lh9 d3;have HX:=lh9 (hx.below st);have HY:=lh9 (hy.below st);have m:=lh9 (a.keep st);have j:=lh9 (zac hB st);have HE:=lh9 (And.intro (zae st D) (And.intro (zae st G) (zae st H)));clear hx hy a hB st d3 d4 D G H;go_wp2_with fail;clear R S T;generalize wr.alloc (.cells #[.bool b1,.slice B1 m1 d1,.slice E1 u1 v1] 53)=W2 at*;generalize wr.heap.size=gb at*;obtain⟨p0,p1,p2⟩:=v.out.c3;obtain⟨e0,e1,e2⟩:=HE.out;have h:=(Below.refl W2.heap.size W2).drew;have s:=off_add (k:=k*3) (show ae.block≠gp by omega);refine rg (csc p0 (csc p1 (csc p2 (csc e0 (csc e1 (csc e2 csn)))))) (λhHeld=>?_);refine tk 0 ?_;refine tk 1 ?_;refine tk 2 ?_;refine tk 3 ?_;refine tk 4 ?_;refine tk 5 ?_;refine tk 6 ?_;refine tk 7 ?_;refine rc 8 (λK hK=>?_);go_simp;refine(HF.out k hlt _ (zac j.out h) _ _ _ _ _ _ _ _ _ _ _ _ _ _ (HX.out.below h) (HY.out.below h)).mono ?_;rintro e w3 ⟨b3,A3,n3,c3,E3,k3,f3,rfl,L,hb⟩;have h:=zac h hb;refine hK.out _ _ (Cs.below hHeld hb) (λhHeld=>?_);clear hK K hb;refine tk 9 ?_;have t:=m.out.keep h;obtain⟨q0,q1,q2,X,ab,Y,ac,aa,af⟩:=t.ready hlt (.bool b3) (.slice A3 n3 c3);refine rc 10 (λK hK=>?_);go_simp;have u:=zbI.set_ zas t hlt L;rw [zco 0 zs n k x.out hlt _ (HG.out k hlt)] at u;have C:=zcB (k*3) (k*3+1) (k*3+2) (.bool b3) (.slice A3 n3 c3) (.slice E3 k3 f3) M (zac j.out h);refine hK.out _ _ (Cs.far hHeld (offg3 _ _ _ _ _ _ _ _) (by refine⟨?_,?_,?_,s,s,s,trivial⟩<;>(show gb≠gp;omega))) (λhHeld=>?_);clear hK K;refine rdn ?_;have Q:=lh9 u;have O:=lh9 C;clear u C t hHeld h L X ab Y ac aa af p0 p1 p2 e0 e1 e2 v HX HY m j HE;go_wp2;go_roundg (n - k)
   case measure=>omega
   case rel=>exact⟨k+1,om9,om9,by go_num,Q.out,O.out⟩
  ·have hk:k=n:=om9;subst hk;have U:decide ((k:Int)<(k:Int))=false:=si9;have HR:=lh9 (zcn 0 zs k x.out▸a);have j:=lh9 hB;clear a hB;go_wp2
   go_ret2
   exact⟨gp,rfl,M,HR.out,j.out⟩
open Go Go.RowKit Go.Proofs.Tryz
set_option maxHeartbeats 16000000
set_option maxRecDepth 100000
set_option linter.unusedVariables false
set_option linter.unusedSimpArgs false
structure zhw (w:World)(A:oA9)(n:Nat)(Ls:List (List Rat)):Prop where
 len:Ls.length=n
 num:∀i L,Ls[i]?=some L->∃(ad:Addr) (B:oA9) (d:Nat),A=some ad/\ad.block<w.heap.size/\w.cell? (ad.add i)=some (.slice B L.length d)/\zaL w B L.length d L
theorem zhw.below {w w':World}{A:oA9}{n:Nat}{Ls:List (List Rat)}(h:zhw w A n Ls)(hb:Below w.heap.size w w'):zhw w' A n Ls:=
 ⟨h.len,λi L hi=>by
  obtain⟨ad,B,d,e,h1,h2,h3⟩:=h.num i L hi;exact⟨ad,B,d,e,Nat.lt_of_lt_of_le h1 hb.size,zae hb h2,h3.keep hb⟩⟩
theorem zcd {α:Type}{xs:List α}{k:Nat}{d:α}(h:k<xs.length):xs[k]?=some (xs.getD k d):=by
 rw [List.getD_eq_getElem?_getD,List.getElem?_eq_getElem h];rfl
section
variable {K L:Nat}{rs:List Rat}{Ls:List (List Rat)}{A B:oA9}{n n' c d:Nat}{w:World}
end
open Go Go.RowKit Go.Proofs.Tryz
set_option maxHeartbeats 16000000
set_option maxRecDepth 100000
set_option linter.unusedVariables false
theorem zlP (x y:Nat)(A D:oA9)(n m c d:Nat)(w:World)(hA:zal w x A n c)(hD:zal w y D m d)(hn:n<=1073741824)(hm:m<=1073741824):
  Calls prog 180 #[.slice A n c,.slice D m d] w (GivesH w (Nat.gcd x y)):=by
 by_cases hx:x=0
 ·have e:n=0:=by rw [hA.len,hx,zdm];rfl
  have HD:=lh9 hD;have hg:Nat.gcd x y=y:=by rw [hx,Nat.gcd_zero_left]
  rw [hg];subst e;clear hA hD hx hg;go_enter func180,ntmps180;go_wp2;go_ret;exact⟨D,m,d,rfl,HD.out,Below.refl _ _⟩
 ·by_cases hy:y=0
  ·have e:m=0:=by rw [hD.len,hy,zdm];rfl
   have a:=zeJ hA hx;have z1:((n:Int)==0)=false:=by simp;omega
   have HA:=lh9 hA;have hg:Nat.gcd x y=x:=by rw [hy,Nat.gcd_zero_right]
   rw [hg];subst e;clear hA hD hx hy hg a;go_enter func180,ntmps180;go_wp2;go_ret;exact⟨A,n,c,rfl,HA.out,Below.refl _ _⟩
  ·refine(ref5_gcd x y A D n m c d w hA hD hn hm hx hy).mono λe w' hg=>?_;obtain⟨A',n',c',he,hh,hb⟩:=hg.elim;exact⟨A',n',c',he,hh,hb⟩
open Go Go.RowKit Go.Proofs.Tryz
set_option maxHeartbeats 16000000
set_option maxRecDepth 100000
set_option linter.unusedVariables false
set_option linter.unusedSimpArgs false
def zbZ (w:World)(r:Rat)(b:Bool)(A:oA9)(n c:Nat)(E:oA9)(k f:Nat):Prop:=zcs w r.num b A n c/\zal w r.den E k f
theorem zbZ.below {w w':World}{r:Rat}{b:Bool}{A:oA9}{n c:Nat}{E:oA9}{k f:Nat}(h:zbZ w r b A n c E k f)(hb:Below w.heap.size w w'):zbZ w' r b A n c E k f:=⟨h.1.below hb,h.2.below hb⟩
theorem zbZ.to {w:World}{r s:Rat}{b:Bool}{A:oA9}{n c:Nat}{E:oA9}{k f:Nat}(e:r=s)(h:zbZ w r b A n c E k f):zbZ w s b A n c E k f:=e▸h
def zpm (w:World)(r:Rat)(e:Ending)(w':World):Prop:=∃(b:Bool) (A:oA9) (n c:Nat) (E:oA9) (k f:Nat),e=.returned (.agg #[.bool b,.slice A n c,.slice E k f])/\zbZ w' r b A n c E k f/\Below w.heap.size w w'
theorem zra {w w':World}{r:Rat}{b:Bool}{A:oA9}{n c:Nat}{E:oA9}{k f:Nat}{g:Nat}{t:TypeId}{cs:Array Value}(h:zbZ w r b A n c E k f)(hk:Blk w g t cs)(a:NoU cs)(ho:zbS g w w'):zbZ w' r b A n c E k f:=⟨ref_off h.1 hk a ho,zkl h.2 hk a ho⟩
def zcQ (w:World)(r:Rat)(e:Ending)(w':World):Prop:=∃(b:Bool) (A:oA9) (n c:Nat) (E:oA9) (k f:Nat),e=.returned (.agg #[.bool b,.slice A n c,.slice E k f])/\zbZ w' r b A n c E k f/\Fr w A/\Fr w E/\Below w.heap.size w w'
theorem zcQ.old {w:World}{r:Rat}{e:Ending}{w':World}(h:zcQ w r e w'):zpm w r e w':=by
 obtain⟨b,A,n,c,E,k,f,h1,h2,-,-,h3⟩:=h;exact⟨b,A,n,c,E,k,f,h1,h2,h3⟩
theorem gr3f {w W:World}{r:Rat}{g:Nat}{t:TypeId}{b:Bool}{A E:oA9}{n c k f:Nat}{p:Bool}{q q2:oA9}{r1 s r2 s2:Nat}(h:zbZ W r b A n c E k f)(kd:Blk W g t #[.bool p,.slice q r1 s,.slice q2 r2 s2])(hB:Below w.heap.size w W)(hg:w.heap.size<=g)(h1:Fr w A)(h2:Fr w E):zcQ w r (.returned (.agg #[.bool b,.slice A n c,.slice E k f])) (((W.setCell ⟨g,0,none⟩ (.bool b)).setCell ⟨g,1,none⟩ (.slice A n c)).setCell ⟨g,2,none⟩ (.slice E k f)):=
 ⟨_,_,_,_,_,_,_,rfl,zra h kd (NoU.s3 _ _ _ _ _ _ _) (off3 _ _ _ _ _),h1,h2,bl3 _ _ _ hg hB⟩
theorem zal.to {w:World}{x y:Nat}{A:oA9}{n c:Nat}(e:x=y)(h:zal w x A n c):zal w y A n c:=e▸h
theorem zff (p d:Int)(hd:d≠0)(s:Bool)(hs:s=(decide (p<0) !=decide (d<0))):sgI s (p.natAbs / Nat.gcd p.natAbs d.natAbs)=(Rat.divInt p d).num/\d.natAbs / Nat.gcd p.natAbs d.natAbs=(Rat.divInt p d).den:=by
 refine⟨?_,(zmS p d hd).symm⟩;have h1:=zmT p d hd;have h2:=zkq p d hd;rw [<-h1];generalize (Rat.divInt p d).num=z at*;unfold sgI;by_cases hp:p<0
 ·by_cases hq:d<0
  ·rw [decide_eq_true hp,decide_eq_true hq] at hs;subst hs;simp;omega
  ·rw [decide_eq_true hp,decide_eq_false hq] at hs;subst hs;simp;omega
 ·by_cases hq:d<0
  ·rw [decide_eq_false hp,decide_eq_true hq] at hs;subst hs;simp;by_cases h0:p=0
   ·subst h0;simp at h1;omega
   ·omega
  ·rw [decide_eq_false hp,decide_eq_false hq] at hs;subst hs;simp;omega
theorem zoX (p:Int)(d:Int)(r:Bool)(y:oA9)(D B:Nat)(s:Bool)(z:oA9)(E C:Nat)(Kp:Nat)(Kd:Nat)(w:World)(af:Sz Kp p.natAbs)(aa:zcs w p r y D B)(ag:Sz Kd d.natAbs)(ab:zcs w d s z E C)(qaa:Kp<=16777216)(qab:Kd<=16777216)(h0:d≠0):
  Calls prog 142 #[.agg #[.bool r,.slice y D B],.agg #[.bool s,.slice z E C]] w (zcQ w (Rat.divInt p d)):=by
 have R:Hid (Nat.gcd p.natAbs d.natAbs≠0):=Nat.gcd_ne_zero_right om9;have H0:=lh9 h0;have c:Hid ((p<0/\d<0)\/(p<0/\¬ d<0)\/(¬ p<0/\d<0)\/(¬ p<0/\¬ d<0)):=by show _\/_;omega
 clear h0;have T:=lh9 af;have U:=lh9 ag;have m:=up9 w (λw' b=>aa.below b);have k:=up9 w (λw' b=>(m.out w' b).2);have g:Hid (Sz Kp p.natAbs):=T.out;have n:=up9 w (λw' b=>ab.below b);have l:=up9 w (λw' b=>(n.out w' b).2);have h:Hid (Sz Kd d.natAbs):=U.out;clear aa af ab ag;go_enter func142,ntmps142;have hB:=Below.refl w.heap.size w;obtain⟨V,X,Y,Z,bz⟩:=zbs w 58 58 60 #[.bool r,.slice y D B] #[.bool s,.slice z E C] #[.bool false,.slice none 0 0,.slice none 0 0];have hB:=zac hB V;obtain⟨g1,e1⟩:=X.c2;obtain⟨g2,e2⟩:=Y.c2;have k3:=Z;clear V X Y Z bz;go_wp2_with fail;generalize ((w.alloc (.cells #[.bool r,.slice y D B] 58)).alloc (.cells #[.bool s,.slice z E C] 58)).alloc (.cells #[.bool false,.slice none 0 0,.slice none 0 0] 60)=W1 at*;have S:Hid (Sz (Kp+Kd) (Nat.gcd p.natAbs d.natAbs)):=Sz.gcd g.out h.out;(with_reducible refine(zlP (p.natAbs) (d.natAbs) y z D E B C _ (k.out _ hB) (l.out _ hB) (szh g (k.out _ hB)) (szh h (l.out _ hB))).mono ?_);rintro e wc2 ⟨C4,r4,f4,rfl,ac,hb⟩;have hB:=zac hB hb;obtain⟨g1,e1,g2,e2⟩:=zae4 hb g1 e1 g2 e2;have k3:=zad hb k3;have A:=lh9 ac;clear hb ac;go_wp2_with fail;have o:Hid (Sz (Kp) (p.natAbs / (Nat.gcd p.natAbs d.natAbs))):=Sz.of_le g.out (Nat.div_le_self _ _);have HZ6:Hid (Sz (Kp) (p.natAbs%(Nat.gcd p.natAbs d.natAbs))):=Sz.of_le g.out (Nat.mod_le _ _);(with_reducible refine(zgo (p.natAbs) (Nat.gcd p.natAbs d.natAbs) y C4 D r4 B f4 _ (k.out _ hB) A.out (szh g (k.out _ hB)) (szh S A.out) R.out).mono ?_);rintro e wc3 ⟨C5,r5,f5,C6,r6,f6,rfl,ad,H,ah,hb⟩;have F:=lh9 (H.from_ hB);clear H;have hB:=zac hB hb;obtain⟨g1,e1,g2,e2⟩:=zae4 hb g1 e1 g2 e2;have k3:=zad hb k3;have A:=lh9 (A.out.below hb);have j:=lh9 ad;clear hb ad ah;go_wp2_with fail;have HZ7:Hid (Sz (Kd) (d.natAbs / (Nat.gcd p.natAbs d.natAbs))):=Sz.of_le h.out (Nat.div_le_self _ _);have HZ8:Hid (Sz (Kd) (d.natAbs%(Nat.gcd p.natAbs d.natAbs))):=Sz.of_le h.out (Nat.mod_le _ _);(with_reducible refine(zgo (d.natAbs) (Nat.gcd p.natAbs d.natAbs) z C4 E r4 C f4 _ (l.out _ hB) A.out (szh h (l.out _ hB)) (szh S A.out) R.out).mono ?_);rintro e wc4 ⟨C7,r7,f7,C8,r8,f8,rfl,ae,I,ai,hb⟩;have G:=lh9 (I.from_ hB);clear I;have hB:=zac hB hb;obtain⟨g1,e1,g2,e2⟩:=zae4 hb g1 e1 g2 e2;have k3:=zad hb k3;have j:=lh9 (j.out.below hb);have a:=lh9 ae;clear hb ae ai;rcases c.out with hq|hq|hq|hq
 ·clear c;obtain⟨hp,hd⟩:=hq;have f:=lh9 (zff p d H0.out false (by simp [hp,hd]<;>omega));have x:=lh9 hp;have u:=lh9 hd;clear hp hd;obtain rfl:r=true:=((m.out _ hB)).1.trans (decide_eq_true (by have:=x.out;omega));obtain rfl:s=true:=((n.out _ hB)).1.trans (decide_eq_true (by have:=u.out;omega));go_wp2_with fail;have J:Hid (Sz (Kp) (sgI false (p.natAbs / (Nat.gcd p.natAbs d.natAbs))).natAbs):=(by rw [zhs];exact o.out);(with_reducible refine(zdx false (p.natAbs / (Nat.gcd p.natAbs d.natAbs)) C5 r5 f5 _ j.out (szh o j.out)).mono ?_);rintro e Q ⟨b9,rfl,i,hb⟩;have hB:=zac hB hb;obtain⟨g1,e1,g2,e2⟩:=zae4 hb g1 e1 g2 e2;have k3:=zad hb k3;have a:=lh9 (a.out.below hb);have t:=lh9 i;clear hb i;obtain⟨K,N,L,O,M,P⟩:=st3 k3 (.bool b9) (.slice C5 r5 f5);obtain⟨r0,r1,r2⟩:=(sn3 k3 (.bool b9) (.slice C5 r5 f5) (.slice C7 r7 f7)).c3;have HG:=lh9 (gr3f (⟨zcs.to f.out.1 t.out,zal.to f.out.2 a.out⟩) k3 hB om9 F.out G.out);go_wp2;refine bodyPost_ret (v:=.agg #[.bool b9,.slice C5 r5 f5,.slice C7 r7 f7]) (by simp [results,results142,go_sem,r0,r1,r2]) rfl ?_;exact HG.out
 ·clear c;obtain⟨hp,hd⟩:=hq;have f:=lh9 (zff p d H0.out true (by simp [hp,hd]<;>omega));have x:=lh9 hp;have u:=lh9 hd;clear hp hd;obtain rfl:r=true:=((m.out _ hB)).1.trans (decide_eq_true (by have:=x.out;omega));obtain rfl:s=false:=((n.out _ hB)).1.trans (decide_eq_false (by have:=u.out;omega));go_wp2_with fail;have J:Hid (Sz (Kp) (sgI true (p.natAbs / (Nat.gcd p.natAbs d.natAbs))).natAbs):=(by rw [zhs];exact o.out);(with_reducible refine(zdx true (p.natAbs / (Nat.gcd p.natAbs d.natAbs)) C5 r5 f5 _ j.out (szh o j.out)).mono ?_);rintro e Q ⟨b9,rfl,i,hb⟩;have hB:=zac hB hb;obtain⟨g1,e1,g2,e2⟩:=zae4 hb g1 e1 g2 e2;have k3:=zad hb k3;have a:=lh9 (a.out.below hb);have t:=lh9 i;clear hb i;obtain⟨K,N,L,O,M,P⟩:=st3 k3 (.bool b9) (.slice C5 r5 f5);obtain⟨r0,r1,r2⟩:=(sn3 k3 (.bool b9) (.slice C5 r5 f5) (.slice C7 r7 f7)).c3;have HG:=lh9 (gr3f (⟨zcs.to f.out.1 t.out,zal.to f.out.2 a.out⟩) k3 hB om9 F.out G.out);go_wp2;refine bodyPost_ret (v:=.agg #[.bool b9,.slice C5 r5 f5,.slice C7 r7 f7]) (by simp [results,results142,go_sem,r0,r1,r2]) rfl ?_;exact HG.out
 ·clear c;obtain⟨hp,hd⟩:=hq;have f:=lh9 (zff p d H0.out true (by simp [hp,hd]<;>omega));have x:=lh9 hp;have u:=lh9 hd;clear hp hd;obtain rfl:r=false:=((m.out _ hB)).1.trans (decide_eq_false (by have:=x.out;omega));obtain rfl:s=true:=((n.out _ hB)).1.trans (decide_eq_true (by have:=u.out;omega));go_wp2_with fail;have J:Hid (Sz (Kp) (sgI true (p.natAbs / (Nat.gcd p.natAbs d.natAbs))).natAbs):=(by rw [zhs];exact o.out);(with_reducible refine(zdx true (p.natAbs / (Nat.gcd p.natAbs d.natAbs)) C5 r5 f5 _ j.out (szh o j.out)).mono ?_);rintro e Q ⟨b9,rfl,i,hb⟩;have hB:=zac hB hb;obtain⟨g1,e1,g2,e2⟩:=zae4 hb g1 e1 g2 e2;have k3:=zad hb k3;have a:=lh9 (a.out.below hb);have t:=lh9 i;clear hb i;obtain⟨K,N,L,O,M,P⟩:=st3 k3 (.bool b9) (.slice C5 r5 f5);obtain⟨r0,r1,r2⟩:=(sn3 k3 (.bool b9) (.slice C5 r5 f5) (.slice C7 r7 f7)).c3;have HG:=lh9 (gr3f (⟨zcs.to f.out.1 t.out,zal.to f.out.2 a.out⟩) k3 hB om9 F.out G.out);go_wp2;refine bodyPost_ret (v:=.agg #[.bool b9,.slice C5 r5 f5,.slice C7 r7 f7]) (by simp [results,results142,go_sem,r0,r1,r2]) rfl ?_;exact HG.out
 ·clear c;obtain⟨hp,hd⟩:=hq;have f:=lh9 (zff p d H0.out false (by simp [hp,hd]<;>omega));have x:=lh9 hp;have u:=lh9 hd;clear hp hd;obtain rfl:r=false:=((m.out _ hB)).1.trans (decide_eq_false (by have:=x.out;omega));obtain rfl:s=false:=((n.out _ hB)).1.trans (decide_eq_false (by have:=u.out;omega));go_wp2_with fail;have J:Hid (Sz (Kp) (sgI false (p.natAbs / (Nat.gcd p.natAbs d.natAbs))).natAbs):=(by rw [zhs];exact o.out);(with_reducible refine(zdx false (p.natAbs / (Nat.gcd p.natAbs d.natAbs)) C5 r5 f5 _ j.out (szh o j.out)).mono ?_);rintro e Q ⟨b9,rfl,i,hb⟩;have hB:=zac hB hb;obtain⟨g1,e1,g2,e2⟩:=zae4 hb g1 e1 g2 e2;have k3:=zad hb k3;have a:=lh9 (a.out.below hb);have t:=lh9 i;clear hb i;obtain⟨K,N,L,O,M,P⟩:=st3 k3 (.bool b9) (.slice C5 r5 f5);obtain⟨r0,r1,r2⟩:=(sn3 k3 (.bool b9) (.slice C5 r5 f5) (.slice C7 r7 f7)).c3;have HG:=lh9 (gr3f (⟨zcs.to f.out.1 t.out,zal.to f.out.2 a.out⟩) k3 hB om9 F.out G.out);go_wp2;refine bodyPost_ret (v:=.agg #[.bool b9,.slice C5 r5 f5,.slice C7 r7 f7]) (by simp [results,results142,go_sem,r0,r1,r2]) rfl ?_;exact HG.out
