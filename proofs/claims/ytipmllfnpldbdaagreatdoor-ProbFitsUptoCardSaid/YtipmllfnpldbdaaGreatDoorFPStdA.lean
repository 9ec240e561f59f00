/- What this claim leans on. -/
import Derived.Test.YtipmllfnpldbdaaGreatDoorFPLeft
import Derived.Test.YtipmllfnpldbdaaGreatDoorFPLine
set_option linter.unusedVariables false
set_option linter.unusedSimpArgs false
namespace Go.Proofs.YtipmllfnpldbdaaGreatDoor
open Go Go.RowKit Go.Proofs.Tryz
set_option maxHeartbeats 16000000
set_option maxRecDepth 100000
variable {cs:Array Value}{L xs:List Rat}{c d9 h k m n:Nat}{t:TypeId}{w w':World}{A C D:zf}
structure SD where
 A:List (List Rat)
 B:List Rat
 C:List Rat
 own:Nat
 left:List Int
def wD (P:PB):List (List Rat):=(List.range P.rows.length).map λj=>rF (P.rows.getD j zL) (sR P.rows P.cost.length j) (xd P.rows P.cost.length)
def vS (P:PB):SD:=⟨wD P,P.rows.map PR.rhs,P.cost++List.replicate (xd P.rows P.cost.length - P.cost.length) 0,P.cost.length,vw P.rows P.cost.length⟩
structure pU (w:World)(A:zf)(n c m:Nat)(B:zf)(cB:Nat)(C:zf)(cC:Nat)(L:zf)(S:SD):Prop where
 mat:xl w A n c m S.A
 b:zy w B n cB S.B
 c:zy w C m cC S.C
 left:nU w L n S.left
theorem nU.keepP {zs:List Int}(h:nU w A n zs)(hb:Below w.heap.size w w'):nU w' A n zs:=⟨h.len,h.ints,λi hi=>by
 obtain⟨ad,e,h1⟩:=h.num i hi;exact⟨ad,e,zq hb h1⟩⟩
theorem pU.keep {w':World}{B:zf}{cB:Nat}{cC:Nat}{L:zf}{S:SD}(h:pU w A n c m B cB C cC L S)(hb:Below w.heap.size w w'):pU w' A n c m B cB C cC L S:=
 ⟨h.mat.keep hb,h.b.keep hb,h.c.keep hb,h.left.keepP hb⟩
def jW (w:World)(n m:Nat)(S:SD)(e:Ending)(w':World):Prop:=∃(A:zf) (c:Nat) (B:zf) (cB:Nat) (C:zf) (cC:Nat) (gL:Nat) (cL:Nat),e=.returned (.tuple #[.agg #[.slice A n c,.int .i64 (m:Int),.slice B n cB,.slice C m cC,.int .i64 (S.own:Int),.slice (some ⟨gL,0,none⟩) n cL],.nilIface])/\pU w' A n c m B cB C cC (some ⟨gL,0,none⟩) S/\Below w.heap.size w w'
section
variable {w:World}{g:Nat}{t:TypeId}{a b c d e f:Value}
theorem zi.c6 (h:zi w g t #[a,b,c,d,e,f]):w.cell? ⟨g,0,none⟩=some a/\w.cell? ⟨g,1,none⟩=some b/\w.cell? ⟨g,2,none⟩=some c/\w.cell? ⟨g,3,none⟩=some d/\w.cell? ⟨g,4,none⟩=some e/\w.cell? ⟨g,5,none⟩=some f:=⟨h.cell 0,h.cell 1,h.cell 2,h.cell 3,h.cell 4,h.cell 5⟩
def x5 (w:World)(g:Nat)(a b c d e f:Value):World:=(((((w.setCell ⟨g,0,none⟩ a).setCell ⟨g,1,none⟩ b).setCell ⟨g,2,none⟩ c).setCell ⟨g,3,none⟩ d).setCell ⟨g,4,none⟩ e).setCell ⟨g,5,none⟩ f
theorem nh (h:zi w g t #[a,b,c,d,e,f])(x y z u v:Value):w.cell? ⟨g,0,none⟩=some a/\w.frozen? ⟨g,0,none⟩=false/\(w.setCell ⟨g,0,none⟩ x).cell? ⟨g,1,none⟩=some b/\(w.setCell ⟨g,0,none⟩ x).frozen? ⟨g,1,none⟩=false/\((w.setCell ⟨g,0,none⟩ x).setCell ⟨g,1,none⟩ y).cell? ⟨g,2,none⟩=some c/\((w.setCell ⟨g,0,none⟩ x).setCell ⟨g,1,none⟩ y).frozen? ⟨g,2,none⟩=false/\
  (((w.setCell ⟨g,0,none⟩ x).setCell ⟨g,1,none⟩ y).setCell ⟨g,2,none⟩ z).cell? ⟨g,3,none⟩=some d/\(((w.setCell ⟨g,0,none⟩ x).setCell ⟨g,1,none⟩ y).setCell ⟨g,2,none⟩ z).frozen? ⟨g,3,none⟩=false/\
  ((((w.setCell ⟨g,0,none⟩ x).setCell ⟨g,1,none⟩ y).setCell ⟨g,2,none⟩ z).setCell ⟨g,3,none⟩ u).cell? ⟨g,4,none⟩=some e/\((((w.setCell ⟨g,0,none⟩ x).setCell ⟨g,1,none⟩ y).setCell ⟨g,2,none⟩ z).setCell ⟨g,3,none⟩ u).frozen? ⟨g,4,none⟩=false/\
  (((((w.setCell ⟨g,0,none⟩ x).setCell ⟨g,1,none⟩ y).setCell ⟨g,2,none⟩ z).setCell ⟨g,3,none⟩ u).setCell ⟨g,4,none⟩ v).cell? ⟨g,5,none⟩=some f/\(((((w.setCell ⟨g,0,none⟩ x).setCell ⟨g,1,none⟩ y).setCell ⟨g,2,none⟩ z).setCell ⟨g,3,none⟩ u).setCell ⟨g,4,none⟩ v).frozen? ⟨g,5,none⟩=false:=
 have h1:=h.set_ 0 x
 have h2:=h1.set_ 1 y
 have h3:=h2.set_ 2 z
 have h4:=h3.set_ 3 u
 have h5:=h4.set_ 4 v
 ⟨h.cell 0,h.frozen 0,h1.cell 1,h1.frozen 1,h2.cell 2,h2.frozen 2,h3.cell 3,h3.frozen 3,h4.cell 4,h4.frozen 4,h5.cell 5,h5.frozen 5⟩
theorem gH (h:zi w g t #[a,b,c,d,e,f])(x y z u v p:Value):zi (x5 w g x y z u v p) g t #[x,y,z,u,v,p]:=(((((h.set_ 0 x).set_ 1 y).set_ 2 z).set_ 3 u).set_ 4 v).set_ 5 p
theorem lh (w:World)(g:Nat)(x y z u v p:Value):xe g w (x5 w g x y z u v p):=((((((xe.refl g w).set_ 0 x).set_ 1 y).set_ 2 z).set_ 3 u).set_ 4 v).set_ 5 p
theorem gw {w0:World}(x y z u v p:Value)(hg:w0.heap.size<=g)(h:Below w0.heap.size w0 w):Below w0.heap.size w0 (x5 w g x y z u v p):=
 zG p hg (zG v hg (zG u hg (zG z hg (rl x y hg h))))
theorem zi.far6 {q:Nat}{s:TypeId}(h:zi w q s cs)(hn:q≠g)(x y z u v p:Value):zi (x5 w g x y z u v p) q s cs:=by
 unfold x5;exact zi.far (p:=⟨g,5,none⟩) (zi.far (p:=⟨g,4,none⟩) (zi.far (p:=⟨g,3,none⟩) (zi.far (p:=⟨g,2,none⟩) (zi.far (p:=⟨g,1,none⟩) (zi.far (p:=⟨g,0,none⟩) h hn x) hn y) hn z) hn u) hn v) hn p
end
theorem xl.offK {g:Nat}{M:List (List Rat)}(h:xl w A n c m M)(hk:zi w g t cs)(hs:∀u ∈ cs.toList,∀b,u≠.bool b)(a:vE .u64 cs)(ho:zZ g w w')(hb:∀q s ds,q≠g->zi w q s ds->zi w' q s ds)(ht:32≠t:=by decide):xl w' A n c m M:=
 { h with
  rows:=h.rows.off (λad e=>(h.ty ad e).ne hk ht) ho (λh3=>nO h3 hk hs a ho)
  ty:=λad e=>by
   have d:=(h.ty ad e).ne hk ht;obtain⟨ds,hd⟩:=h.ty ad e;exact⟨ds,hb _ _ _ d hd⟩}
theorem yk.offB {q:Nat}(hv:yk w q m L)(hk:zi w h t cs)(hn:vE .u64 cs)(ho:zZ h w w')(hb:∀q s ds,q≠h->zi w q s ds->zi w' q s ds)(hq:q≠h):yk w' q m L:=by
 refine⟨hv.len,?_,λi x hi=>?_⟩
 ·obtain⟨ds,h1,h2,h3⟩:=hv.blk;exact⟨ds,hb _ _ _ hq h1,h2,h3⟩
 ·obtain⟨b,B,k,d,F,u,v,h1,h2,h3,h4⟩:=hv.num i x hi;have hl:=hv.lt;exact⟨b,B,k,d,F,u,v,(ho.2 _ hl hq).trans h1,(ho.2 _ hl hq).trans h2,(ho.2 _ hl hq).trans h3,nL hk hn ho h4⟩
theorem zy.offB (hv:zy w C n c L)(hk:zi w h t cs)(hn:vE .u64 cs)(ho:zZ h w w')(hq:∀ad,C=some ad->ad.block≠h):zy w' C n c L:=by
 refine⟨hv.len,hv.fits,hv.most,λi x hi=>?_⟩;obtain⟨ad,b,B,m,d,F,u,v,e,h1,h2,h3,h4,h5⟩:=hv.num i x hi;have hc:∀j,w'.cell? (ad.add j)=w.cell? (ad.add j):=λj=>ho.2 _ (by rw [y9];exact h1) (by rw [y9];exact hq ad e);exact⟨ad,b,B,m,d,F,u,v,e,qJ h1 ho.1,(hc _).trans h2,(hc _).trans h3,(hc _).trans h4,nL hk hn ho h5⟩
def mH (g:Nat):RP Rat:=λw A n c xs=>zy w A n c xs/\∀ad,A=some ad->ad.block≠g
theorem ib (g:Nat):sV (mH g):=⟨λh=>h.1.len,λh hb=>⟨h.1.keep hb,h.2⟩,λh hk hs ho=>⟨ie yx h.1 hk hs ho,h.2⟩,λw=>⟨yh.nil w,λad e=>by cases e⟩⟩
theorem kU (h:ye cs):vE .u64 cs:=λv hv z e=>h v hv .u64 z e
structure vW (w:World)(n k cols gR gS gB gL gW gC cC:Nat)(Bs C:List Rat)(ls:List Int)(Ls:List (List Rat)):Prop where
 r:zi w gR 35 #[.slice none 0 0,.int .i64 0,.slice none 0 0,.slice none 0 0,.int .i64 0,.slice none 0 0]
 s:zi w gS 35 #[.slice none 0 0,.int .i64 0,.slice (some ⟨gB,0,none⟩) n n,.slice (some ⟨gC,0,none⟩) cols cC,.int .i64 (k:Int),.slice (some ⟨gL,0,none⟩) n n]
 b:yk w gB n Bs
 c:zy w (some ⟨gC,0,none⟩) cols cC C
 l:zi w gL 3 (wJ ls)
 o:y8 (mH gB) w 32 gW n Ls
 ne:gC≠gB
theorem xw {a b:Nat}{s:TypeId}{ds:Array Value}(h:zi w a s cs)(k:zi w b t ds)(hn:s≠t):a≠b:=h.ne_ k hn
section
variable {w:World}{n k cols gR gS gB gL gW gC cC:Nat}{Bs C:List Rat}{ls:List Int}{Ls:List (List Rat)}
theorem vW.below (h:vW w n k cols gR gS gB gL gW gC cC Bs C ls Ls)(hb:Below w.heap.size w w'):vW w' n k cols gR gS gB gL gW gC cC Bs C ls Ls:=
 ⟨zj hb h.r,zj hb h.s,h.b.keep hb,h.c.keep hb,zj hb h.l,h.o.below (ib gB) hb,h.ne⟩
theorem y8.offB (hv:y8 (mH h) w 32 gW n Ls)(hk:zi w h t cs)(hn:vE .u64 cs)(ho:zZ h w w')(hb:∀q s ds,q≠h->zi w q s ds->zi w' q s ds)(hq:gW≠h):y8 (mH h) w' 32 gW n Ls:=by
 refine⟨hv.len,?_,λi x hi=>?_⟩
 ·obtain⟨ds,h1,h2,h3⟩:=hv.blk;exact⟨ds,hb _ _ _ hq h1,h2,h3⟩
 ·obtain⟨B,d,h1,h2,h3⟩:=hv.num i x hi;exact⟨B,d,(ho.2 _ hv.lt hq).trans h1,zy.offB h2 hk hn ho h3,h3⟩
theorem sv (g i j k:Nat)(w:World)(x y z:Value):∀q s ds,q≠g->zi w q s ds->zi (((w.setCell ⟨g,i,none⟩ x).setCell ⟨g,j,none⟩ y).setCell ⟨g,k,none⟩ z) q s ds:=λq s ds hq h=>
 zi.far (p:=⟨g,k,none⟩) (zi.far (p:=⟨g,j,none⟩) (zi.far (p:=⟨g,i,none⟩) h hq x) hq y) hq z
theorem vW.setB (h:vW w n k cols gR gS gB gL gW gC cC Bs C ls Ls){i:Nat}(hi:i<n){x:Rat}{b:Bool}{A E:zf}{m d u v:Nat}(hx:zt w x b A m d E u v):
  vW (((w.setCell ⟨gB,i*3,none⟩ (.bool b)).setCell ⟨gB,i*3+1,none⟩ (.slice A m d)).setCell ⟨gB,i*3+2,none⟩ (.slice E u v)) n k cols gR gS gB gL gW gC cC (Bs.set i x) C ls Ls:=by
 obtain⟨cs,hk,hn,hz⟩:=h.b.blk;have hb:=sv gB (i*3) (i*3+1) (i*3+2) w (.bool b) (.slice A m d) (.slice E u v);have ho:=zZ.of_far (kj gB (i*3) (i*3+1) (i*3+2) w (.bool b) (.slice A m d) (.slice E u v));obtain⟨ds,hd,_⟩:=h.o.blk;exact ⟨hb _ _ _ (xw h.r hk zh) h.r,hb _ _ _ (xw h.s hk zh) h.s,y6.set_ yx h.b hi hx,zy.offB h.c hk (kU hn) ho (fun ad e => by injection e with e; subst e; exact h.ne),hb _ _ _ (xw h.l hk zh) h.l,
  y8.offB h.o hk (kU hn) ho hb (xw hd hk zh),h.ne⟩
theorem vW.setW (h:vW w n k cols gR gS gB gL gW gC cC Bs C ls Ls){i m d:Nat}(hi:i<n){L:List Rat}{A:zf}(hx:zy w A m d L)(a:∀ad,A=some ad->ad.block≠gB):
  vW (w.setCell ⟨gW,i,none⟩ (.slice A m d)) n k cols gR gS gB gL gW gC cC Bs C ls (Ls.set i L):=by
 obtain⟨cs,hk,hn,hz⟩:=h.o.blk;have hb:∀q s ds,q≠gW->zi w q s ds->zi (w.setCell ⟨gW,i,none⟩ (.slice A m d)) q s ds:=λq s ds hq h=>zi.far (p:=⟨gW,i,none⟩) h hq _;have ho:zZ gW w (w.setCell ⟨gW,i,none⟩ (.slice A m d)):=zZ.of_far ((xe.refl gW w).set_ i _);obtain⟨ds,hd,hd1,_⟩:=h.b.blk;exact ⟨hb _ _ _ (xw h.r hk zh) h.r,hb _ _ _ (xw h.s hk zh) h.s,yk.offB h.b hk (kU (sz hn)) ho hb (xw hd hk zh),ie yx h.c hk hn ho,hb _ _ _ (xw h.l hk zh) h.l,
  y8.set_ (ib gB) h.o hi ⟨hx,a⟩ hx.len,h.ne⟩
theorem vW.lines (h:vW w n k cols gR gS gB gL gW gC cC Bs C ls Ls):wf (yh zt) w (some ⟨gW,0,none⟩) n Ls:=
 ⟨h.o.len,λi x hi=>by
  obtain⟨B,d,h1,h2⟩:=h.o.num i x hi;exact⟨_,B,d,rfl,h.o.lt,by rw [xh];exact h1,h2.1⟩⟩
end
set_option maxHeartbeats 4000000
def wH (p:PR)(x:List Rat):Bool:=decide (p.co.length=x.length)&&(if p.kd=1 then decide (vz (wT p x)<=0) else if p.kd=2 then decide (0<=vz (wT p x)) else if p.kd=3 then decide (wT p x=0) else false)
theorem cK {K K' n:Nat}{p:PR}(hl:p.co.length=n)(z:zH K p.co)(zr:zp K p.rhs)(zx:zH K' xs):zp (2+n*(K+K'+1)+K) (wT p xs):=by
 unfold wT;by_cases h:p.co.length=xs.length
 ·rw [if_pos h];exact((lU hl za z zx).sub zr).up za
 ·rw [if_neg h];exact zp.zero.up za
section
variable {K K':Nat}{p:PR}{xs:List Rat}{C X:zf}{n n' c d:Nat}{w:World}{b:Bool}{B E:zf}{m e9 u v:Nat}
theorem eV {t:Bool}(ht:wH p xs=t)(hT:zu w)(h:zy w C n c p.co)(hr:zt w p.rhs b B m e9 E u v)(hx:zy w X n' d xs)(z:zH K p.co)(zr:zp K p.rhs)(zx:zH K' xs)(hn:n<=1073741824:=by omega)(hS:2+n*(K+K'+1)+K<=67108864:=by omega)(H:K'<=67108864:=by omega):
  Calls prog 28 #[.agg #[.slice C n c,.int .i64 p.kd,.bool b,.slice B m e9,.slice E u v],.slice X n' d] w (λe w'=>e=.returned (.bool t)/\Below w.heap.size w w'):=by
 obtain⟨ok,e⟩:∃ok,decide (p.co.length=xs.length)=ok:=⟨_,rfl⟩;obtain⟨g,F,bz⟩:=zF w 83 #[.slice C n c,.int .i64 p.kd,.bool b,.slice B m e9,.slice E u v];obtain⟨g0,g1,g2,g3,g4⟩:=F.c5;have HO:=zd (mu e (hT.on g) (h.keep g) (hr.below g) (hx.keep g) z zr zx hn za za H);have HZ:=zd (cK h.len z zr zx);have HT:=zd (λW (hb:Below w.heap.size w W)=>hT.on hb);have HB:=zd g;have HS:=zd hS;clear hT h hr hx z zr zx g F bz hS;unfold wH at ht;rw [e] at ht;generalize wT p xs=q at*;obtain⟨kd,G⟩:∃kd,p.kd=kd:=⟨_,rfl⟩;rw [G] at ht g0 g1 g2 g3 g4 HO HB⊢;clear e G;cases ok with
 |false=>
   have HE:=zd ht;clear ht HS HZ HT;go_enter func28,ntmps28;go_wp2_with fail;refine HO.o.mono ?_;rintro e w1 ⟨b1,A1,n1,c1,E1,k1,f1,rfl,j,hb⟩;obtain⟨st,d3,d4⟩:=zF w1 60 #[.bool b1,.slice A1 n1 c1,.slice E1 k1 f1];have a:=zd (ze (ze HB.o hb) st);clear HO HB j hb st d3 d4 g0 g1 g2 g3 g4;go_wp2;go_ret;exact⟨by rw [<-HE.o];rfl,a.o⟩
 |true=>
   obtain⟨s,hs⟩:∃s,vz q=s:=⟨_,rfl⟩;have A:=zd hs;obtain⟨zb,y⟩:∃z,decide (q=0)=z:=⟨_,rfl⟩;have D:=zd y;rw [hs,y,Bool.true_and] at ht;clear hs y;go_enter func28,ntmps28;go_wp2_with fail;refine HO.o.mono ?_;rintro e w1 ⟨b1,A1,n1,c1,E1,k1,f1,rfl,j,hb⟩;obtain⟨st,d3,d4⟩:=zF w1 60 #[.bool b1,.slice A1 n1 c1,.slice E1 k1 f1];obtain⟨p0,p1,p2⟩:=d3.c3;have q1:=zq st (zq hb g1);have x:=ze (ze HB.o hb) st;have HG:=zd (iR A.o (HT.o _ x) (j.below st) HZ.o HS.o);have HH:=zd (iS D.o (HT.o _ x) (j.below st) HZ.o HS.o);have a:=zd x;clear HO HB HT HZ HS j hb st d3 d4 g0 g1 g2 g3 g4 x A D;by_cases k1:kd=1
   ·have t1:(kd==1)=true:=by simp [k1]
    have HE:=zd ((if_pos k1).symm.trans ht);clear ht k1 HH;go_wp2_with fail;refine HG.o.mono ?_;rintro e w3 ⟨rfl,hb⟩;have i:=zd (ze a.o hb);clear hb HG a p0 p1 p2 q1 t1;go_wp2;go_ret;exact⟨by rw [<-HE.o];rfl,i.o⟩
   ·have t1:(kd==1)=false:=by simp [k1]
    rw [if_neg k1] at ht;by_cases k2:kd=2
    ·have t2:(kd==2)=true:=by simp [k2]
     have HE:=zd ((if_pos k2).symm.trans ht);clear ht k1 k2 HH;go_wp2_with fail;refine HG.o.mono ?_;rintro e w3 ⟨rfl,hb⟩;have i:=zd (ze a.o hb);clear hb HG a p0 p1 p2 q1 t1 t2;go_wp2;go_ret;exact⟨by rw [<-HE.o];rfl,i.o⟩
    ·have t2:(kd==2)=false:=by simp [k2]
     rw [if_neg k2] at ht;by_cases k3:kd=3
     ·have t3:(kd==3)=true:=by simp [k3]
      have HE:=zd ((if_pos k3).symm.trans ht);clear ht k1 k2 k3 HG;go_wp2_with fail;refine HH.o.mono ?_;rintro e w3 ⟨rfl,hb⟩;have i:=zd (ze a.o hb);clear hb HH a p0 p1 p2 q1 t1 t2 t3;go_wp2;go_ret;exact⟨by rw [<-HE.o];rfl,i.o⟩
     ·have t3:(kd==3)=false:=by simp [k3]
      rw [if_neg k3] at ht;have HE:=zd ht;clear ht k1 k2 k3 HG HH;go_wp2;go_ret;exact⟨by rw [<-HE.o];rfl,a.o⟩
theorem Wc {P:PB}{A:zf}{nr q:Nat}{ok:Bool}(e:decide (P.cost.length=xs.length)=ok)(hT:zu w)(h:zy w D k d9 P.cost)(hx:zy w X n' d xs)(z:zH K P.cost)(zx:zH K' xs)(hk:k<=1073741824:=by omega)(hS:1+k*(K+K'+1)<=67108864:=by omega)(hK:K<=67108864:=by omega)(u:K'<=67108864:=by omega):
  Calls prog 29 #[.agg #[.slice D k d9,.slice A nr q],.slice X n' d] w (x6 w (wk P.cost xs) ok):=by
 obtain⟨a,i,j,bz⟩:=ya w 42 60 #[.slice D k d9,.slice A nr q] #[.bool false,.slice none 0 0,.slice none 0 0];obtain⟨g0,g1⟩:=i.c2;have HD:=zd (kF e (hT.on a) (h.keep a) (hx.keep a) z zx hk hS hK u);have HB:=zd a;have HK:=zd j;clear hT h hx z zx e a i j bz hS;generalize wk P.cost xs=r at*;go_enter func29,ntmps29;go_wp2_with fail;generalize (w.alloc (.cells #[.slice D k d9,.slice A nr q] 42)).alloc (.cells #[.bool false,.slice none 0 0,.slice none 0 0] 60)=W1 at*;refine HD.o.mono ?_;rintro e w1 ⟨b1,A1,n1,c1,E1,k1,f1,rfl,t,hb⟩;have m:=ze HB.o hb;have g:=zj hb HK.o;obtain⟨sc0,sf0,sc1,sf1,sc2,sf2⟩:=yg g (.bool b1) (.slice A1 n1 c1);obtain⟨r0,r1,r2⟩:=(yf g (.bool b1) (.slice A1 n1 c1) (.slice E1 k1 f1)).c3;have HG:=zd (uv ok t g m (show w.heap.size<=w.heap.size+1 by omega));clear HD HB HK t hb m g g0 g1;go_wp2;refine bodyPost_ret (v:=.tuple #[.agg #[.bool b1,.slice A1 n1 c1,.slice E1 k1 f1],.bool ok]) (by simp [results,results29,go_sem,r0,r1,r2]) rfl ?_;exact HG.o
end
def kh (P:PB)(x:List Rat):Bool:=decide (x.length=P.cost.length)&& !(ru x)&&P.rows.all (wH · x)
theorem dB {ps:List PR}{x:List Rat}(hk:k<ps.length):(ps.take (k+1)).all (wH · x)=((ps.take k).all (wH · x)&&wH (ps.getD k zL) x):=by
 rw [QY hk,List.all_append,qQ,qZ hk];simp
theorem oK {ps:List PR}{x:List Rat}(hk:k<ps.length)(h:wH (ps.getD k zL) x=false):ps.all (wH · x)=false:=by
 rw [qQ,qZ hk] at h;rw [List.all_eq_false];exact⟨ps[k],xE hk,by simpa using h⟩
theorem eS {K K' N:Nat}{X:zf}{n' d:Nat}{P:PB}{q:Nat}{t:Bool}(ht:kh P xs=t)(hT:zu w)(h:sO w D k d9 A n q P)(hx:zy w X n' d xs)(z:mG K P.rows)(zl:lR N P.rows)(zx:zH K' xs)(Y:n'<=1073741824:=by omega)(hN:N<=1073741824:=by omega)(hS:2+N*(K+K'+1)+K<=67108864:=by omega)(Q:K'<=67108864:=by omega):
  Calls prog 30 #[.agg #[.slice D k d9,.slice A n q],.slice X n' d] w (λe w'=>e=.returned (.bool t)/\Below w.heap.size w w'):=by
 have T:=hx.len;have S:=h.cost.len;have L:=h.rows.len;have hn9:n<=9223372036854775807:=qA h.fits h.most;obtain⟨y,J,bz⟩:=zF w 42 #[.slice D k d9,.slice A n q];obtain⟨g0,g1⟩:=J.c2;have x:=zd (fF (t:=ru xs) rfl (hT.on y) (hx.keep y) zx Y Q);have HW:=zd (λW (hb:Below w.heap.size w W) (i:Nat) (hi:i<n)=>h.rows.get hb hi);have HH:=zd (λW (hb:Below w.heap.size w W) (i:Nat) (hi:i<n) (t:Bool) (e:wH (P.rows.getD i zL) xs=t) (C:zf) (c:Nat) (b:Bool) (B:zf) (m e9:Nat) (E:zf) (u v:Nat) (h1:zy W C (P.rows.getD i zL).co.length c (P.rows.getD i zL).co) (h2:zt W (P.rows.getD i zL).rhs b B m e9 E u v)=>
  eV e (hT.on hb) h1 h2 (hx.keep hb) (z.at_ (i:=i) za).1 (z.at_ (i:=i) za).2 zx (qA (zl.at_ (i:=i) za) hN) (by
   have h3:=zl.at_ (i:=i) za;have h4:=QJ (K+K'+1) h3;omega) Q)
 have HB:=zd y;have i0:(0:Int)<=(n:Int):=za;have M:=zd L;unfold kh at ht;by_cases hl:n'=k
 ·subst hl;rw [decide_eq_true (show xs.length=P.cost.length by omega),Bool.true_and] at ht;have e0:((n':Int) !=(n':Int))=false:=zD;obtain⟨bl,R⟩:∃b,ru xs=b:=⟨_,rfl⟩;rw [R] at x ht;clear hT h hx z zl zx y J bz T S L R hS;cases bl with
  |true=>
    have HE:=zd ht;clear ht HH HW;go_enter func30,ntmps30;go_wp2_with fail;refine x.o.mono ?_;rintro e w1 ⟨rfl,hb⟩;have a:=zd (ze HB.o hb);clear hb HB x g0 g1;go_wp2;go_ret;exact⟨by rw [<-HE.o];rfl,a.o⟩
  |false=>
    have HE:=zd ht;clear ht;go_enter func30,ntmps30;go_wp2_with fail;refine x.o.mono ?_;rintro e w1 ⟨rfl,hb⟩;have O:=ze HB.o hb;obtain⟨g0,g1⟩:=zW hb g0 g1;clear hb HB x;go_wp2_with fail;clear g0 g1
    go_loopg [20] (n+1) (λg ix wr=>∃(k:Nat),k<=n/\n<g+k/\ix=.int .i64 k/\zg ((P.rows.take k).all (wH · xs)=true)/\Below w.heap.size w wr)
    case atStart=>exact⟨0,QE _,za,rfl,rfl,O⟩
    case round=>
     clear O;obtain⟨j,hjn,hg,rfl,G,hB⟩:=hrel;by_cases hlt:j<n
     ·obtain⟨ad,rfl,-,C,c,b,B,m,e9,E,u,v,c0,c1,c2,c3,c4,h5,-,h7⟩:=HW.o _ hB j hlt;have V:decide ((j:Int)<(n:Int))=true:=decide_eq_true za;have i1:(0:Int)<=(j:Int):=za;have i2:(j:Int)<(n:Int):=za;obtain⟨tj,F⟩:∃t,wH (P.rows.getD j zL) xs=t:=⟨_,rfl⟩;obtain⟨st,d3,d4⟩:=zF wr 83 #[.slice C (P.rows.getD j zL).co.length c,.int .i64 (P.rows.getD j zL).kd,.bool b,.slice B m e9,.slice E u v];obtain⟨p0,p1,p2,p3,p4⟩:=d3.c5;have HJ:=zd (HH.o _ (ze hB st) j hlt tj F C c b B m e9 E u v (h5.keep st) (h7.below st));have a:=zd (ze hB st);have H:j<P.rows.length:=by have:=M.o;omega
      cases tj with
      |true=>
        have U:zg ((P.rows.take (j+1)).all (wH · xs)=true):=by
         show _=_;rw [dB H,G.o,F];rfl
        generalize (P.rows.getD j zL).co.length=n3 at*;generalize (P.rows.getD j zL).kd=kd at*;clear G hB h5 h7 st d3 d4 F H;go_wp2_with fail;refine HJ.o.mono ?_;rintro e w3 ⟨rfl,hb⟩;have I:=zd (ze a.o hb);clear hb a HJ p0 p1 p2 p3 p4 c0 c1 c2 c3 c4;go_wp2;go_roundg (n - j)
        case measure=>omega
        case rel=>exact⟨j+1,za,za,by go_num,U,I.o⟩
      |false=>
        have HF:zg (false=t):=by
         show _=_;rw [<-HE.o,oK H F];rfl
        generalize (P.rows.getD j zL).co.length=n3 at*;generalize (P.rows.getD j zL).kd=kd at*;clear G hB h5 h7 st d3 d4 F H;go_wp2_with fail;refine HJ.o.mono ?_;rintro e w3 ⟨rfl,hb⟩;have I:=zd (ze a.o hb);clear hb a HJ p0 p1 p2 p3 p4 c0 c1 c2 c3 c4;go_wp2;go_ret;exact⟨by rw [<-HF.o];rfl,I.o⟩
     ·have V:decide ((j:Int)<(n:Int))=false:=decide_eq_false za;have HF:zg (true=t):=by
       have h1:=M.o;have h2:=G.o;have h3:P.rows.take j=P.rows:=qU za;show _=_;rw [<-HE.o];rw [h3] at h2;rw [h2];rfl
      have a:=zd hB;clear G hB;go_wp2;go_ret;exact⟨by rw [<-HF.o];rfl,a.o⟩
 ·have e0:((n':Int) !=(k:Int))=true:=by rw [bne_iff_ne];omega
  have HE:zg (false=t):=by
   show _=_;rw [<-ht,decide_eq_false (show ¬ xs.length=P.cost.length by omega)];rfl
  clear hT h hx z zl zx y J bz T S L ht hS HH HW x hl;go_enter func30,ntmps30;go_wp2;go_ret;exact⟨by rw [<-HE.o];rfl,HB.o⟩
