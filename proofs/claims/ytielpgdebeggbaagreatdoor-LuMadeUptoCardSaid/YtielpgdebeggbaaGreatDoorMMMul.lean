/- What this claim leans on. -/
import Derived.Test.YtielpgdebeggbaaGreatDoorMEDetM
set_option linter.unusedVariables false
set_option linter.unusedSimpArgs false
namespace Go.Proofs.YtielpgdebeggbaaGreatDoor
open Go Go.RowKit Go.Proofs.Tryz
set_option maxHeartbeats 16000000
set_option maxRecDepth 100000
variable {cs:Array Value}{ld:List Nat}{xs:List Rat}{vs:List Value}{K c d g k n z:Nat}{x:Rat}{t:TypeId}{v x0 x1 x2:Value}{w w':World}{A:ze}
theorem fY (M:List (List Rat))(v:List Rat):(wN M v).length=M.length:=by simp [wN]
theorem cM {M:List (List Rat)}{v:List Rat}{i:Nat}(h:i<M.length):(wN M v)[i]?=some (uX (M.getD i []) v):=by
 unfold wN;rw [qW,qQ,qY h];rfl
theorem oB {K':Nat}{M:List (List Rat)}{v:List Rat}(z:zW K M)(zv:zD K' v)(hd:∀L ∈ M,L.length=k)(hv:v.length=k):zD (1+k*(K+K'+1)) (wN M v):=λx hx=>by
 obtain⟨L,hL,rfl⟩:=List.mem_map.1 hx;exact Xd (hd L hL) hv (z L hL) zv
section
variable {K K':Nat}{w:World}
theorem pw {q:Nat}{Q:ze}{Ls:List (List Rat)}(hT:zu w)(h:yx (yg zo) w Q n Ls)(hd:∀L ∈ Ls,L.length=k)(hv:zR w A k c xs)(z:zW K Ls)(zx:zD K' xs)(hn:n<=64:=by omega)(hk:k<=64:=by omega)(hK:K<=67108864:=by omega)(M:K'<=67108864:=by omega)(hS:1+k*(K+K'+1)<=67108864:=by omega):
  Calls prog 49 #[.slice Q n q,.slice A k c] w (sA w n (wN Ls xs)):=by
 have hl:=h.len;have HR:=zb h;have HV:=zb hv;have HT:=zk w (λw' hb=>hT.on hb);have HZ:zd (∀i,i<n->zD K (Ls.getD i [])):=λi hi=>z.row za;have HD:zd (∀i,i<n->(Ls.getD i []).length=k):=λi hi=>hd _ (QX (ws za));have HX:=zb zx;have s:zd ((wN Ls xs).length=n):=by show _=_;rw [fY];exact hl
 have HG:zd (∀i,i<n->(wN Ls xs)[i]?=some (uX (Ls.getD i []) xs)):=λi hi=>cM za;have J:=zb hS;obtain⟨ys,F⟩:∃ys,wN Ls xs=ys:=⟨_,rfl⟩;rw [F] at s HG⊢;obtain⟨Z,hZ⟩:=nA n za;have P:=λW=>(hZ W).1;have m:=zb (λW=>(hZ W).2);clear hT h hd hv z zx hl F hZ hS;unfold sA;have i0:(0:Int)<=(n:Int):=za;go_enter func49,ntmps49;go_wp2_with fail;clear P;have a:=m.o w;have hB:Below w.heap.size w (w.alloc (.cells Z 52)):=(qZ _ w).alloc (qX _) _;obtain⟨gp,y⟩:∃g,w.heap.size=g:=⟨_,rfl⟩;have E:w.heap.size<=gp:=za;rw [y] at a⊢;rw [<-sV 0 ys n] at a;generalize w.alloc (.cells Z 52)=W1 at*;clear y m
 go_loopg [13] (n+1) (λg ix wr=>∃(k:Nat),k<=n/\n<g+k/\ix=.int .i64 k/\yf wr gp n (vC 0 ys n k)/\Below w.heap.size w wr)
 case atStart=>exact⟨0,qM _,za,rfl,a,hB⟩
 case round=>
  clear a hB;obtain⟨i,hkn,hg,rfl,a,hB⟩:=hrel;by_cases hlt:i<n
  ·obtain⟨ad,B,d,rfl,-,hc,C⟩:=HR.o.get (xe z6) hB hlt (HD.o i hlt);have N:decide ((i:Int)<(n:Int))=true:=decide_eq_true za;have i1:(0:Int)<=(i:Int):=za;have i2:(i:Int)<(n:Int):=za;have o:=zb a;have v:=zb C;have j:=zb hB;clear C a hB;go_wp2_with fail;(with_reducible refine(TR (HT.o _ j.o) v.o (HV.o.keep j.o) (HZ.o i hlt) HX.o za hK M J.o).mono ?_);rintro e w3 ⟨b3,A3,n3,c3,E3,k3,f3,rfl,D,hb⟩;clear hc;have t:=o.o.keep hb;have u:=wC.set_ z6 t hlt D;rw [sR 0 ys n i s.o hlt _ (HG.o i hlt)] at u;obtain⟨q0,q1,q2,sc0,sf0,sc1,sf1,sc2,sf2⟩:=t.ready hlt (.bool b3) (.slice A3 n3 c3);have H:=zb u;have G:=zb (jE (i*3) (i*3+1) (i*3+2) (.bool b3) (.slice A3 n3 c3) (.slice E3 k3 f3) E (zc j.o hb));clear t u hb D o j v;go_wp2;go_roundg (n - i)
   case measure=>omega
   case rel=>exact⟨i+1,za,za,by go_num,H.o,G.o⟩
  ·have O:i=n:=za;subst O;have N:decide ((i:Int)<(i:Int))=false:=zF;have I:=zb (sQ 0 ys i s.o▸a);have j:=zb hB;clear a hB;go_wp2;go_ret;exact⟨gp,rfl,E,I.o,j.o⟩
variable {A:ze}{n c m:Nat}{MM:List (List Rat)}
def kz (w:World)(n:Nat)(Ls:List (List Rat))(e:Ending)(w':World):Prop:=∃g,e=.returned (.slice (some ⟨g,0,none⟩) n n)/\w.heap.size<=g/\wn (yg zo) w' 41 g n Ls/\Below w.heap.size w w'
variable {V:ze}{k cv:Nat}{xs:List Rat}
theorem On (hT:zu w)(h:xm w A n c m MM)(hv:zR w V m cv xs)(z:zW K MM)(zx:zD K' xs)(hK:K<=67108864:=by omega)(j:K'<=67108864:=by omega)(hS:1+m*(K+K'+1)<=67108864:=by omega):
  Calls prog 28 #[.agg #[.slice A n c,.int .i64 (m:Int)],.slice V m cv] w (tj w n (wN MM xs)):=by
 have e0:((m:Int) !=(m:Int))=false:=zF;obtain⟨a,d,bz⟩:=zA w 28 #[.slice A n c,.int .i64 (m:Int)];obtain⟨g0,g1⟩:=d.c2;have HD:=zb (pw (q:=c) (hT.on a) (h.keep a).rows h.dims.cols (hv.keep a) z zx h.hn h.hm hK j hS);have HB:=zb a;clear h a d bz hT hv z zx;unfold tj;go_enter func28,ntmps28;go_wp2_with fail;refine HD.o.mono ?_;rintro e w5 ⟨g5,rfl,g,i,hb⟩;have HG:=zb (And.intro (qH HB.o.size g) (And.intro i (zc HB.o hb)));clear g0 g1 g i hb;go_wp2
 go_ret2
 exact⟨g5,rfl,HG.o⟩
end
theorem LI.szq (h:LI K x)(hK:0<K):zn K x:=by
 obtain⟨z,rfl,hz⟩:=h;exact zn.whole hz hK
theorem pO {L:Nat}(hz:zn K x):zn K ((x.den:Nat):Rat):=by
 by_cases hK:K=0
 ·subst hK;exact absurd hz.den (by have:=x.den_nz;unfold Sz;rw [yG];omega)
 ·rw [<-YD];exact zn.whole hz.den za
theorem pP (hz:zn K x):zn K (x.num:Rat):=by
 by_cases hK:K=0
 ·subst hK;exact absurd hz.den (by have:=x.den_nz;unfold Sz;rw [yG];omega)
 ·exact zn.whole hz.num za
theorem mX (h:¬x.den=1):x≠0:=λe=>h (by rw [e];rfl)
theorem zh.far3 {q:Nat}(h:zh w g t cs)(a:g≠q)(x y z:Value):zh (((w.setCell ⟨q,0,none⟩ x).setCell ⟨q,1,none⟩ y).setCell ⟨q,2,none⟩ z) g t cs:=zh.far (p:=⟨q,2,none⟩) (zh.far (p:=⟨q,1,none⟩) (zh.far (p:=⟨q,0,none⟩) h a x) a y) a z
theorem eK:((1:Int):Rat)=1:=by decide+kernel
theorem OI:zG []=1:=rfl
theorem Z5 {K0:Nat}(hT:zu w)(ha:zR w A n c xs)(hx:zD K0 xs)(hK:LI K (zG xs))(hn:n<=1073741824:=by omega)(h9:K+K0<=33554432:=by omega)(ai:0<K:=by omega):
  Calls prog 86 #[.slice A n c] w (yj w (zG xs)):=by
 have hl:=ha.len;have ab:zd (∀i,i<n->zn K0 (xs.getD i 0)):=λi hi=>hx.at_ za;have S:zd (∀k,zn K (zG (xs.take k))):=λk=>(Qp hK).szq ai;have ae:zd (∀k,k<n->zG (xs.take (k+1))=zG (xs.take k)*(((zG (xs.take k)*xs.getD k 0).den:Nat):Rat)):=λk hk=>Qo za;have ac:zd (zG (xs.take n)=zG xs):=by rw [qV za];exact rfl
 have HA:=zb ha;have HT:=zk w (λw' hb=>hT.on hb);obtain⟨a,y,bz⟩:=zA w 52 #[.bool false,.slice none 0 0,.slice none 0 0];have HB:=zb a;have j:=zb y;have i0:(0:Int)<=(n:Int):=za;unfold yj;clear hT ha hx hK hl a y bz;go_enter func86,ntmps86;go_wp2_with fail;generalize w.alloc (.cells #[.bool false,.slice none 0 0,.slice none 0 0] 52)=W1 at*;(with_reducible refine(tX 1 _ (HT.o _ HB.o) zf zf).mono ?_);rintro e w1 ⟨b1,A1,n1,c1,E1,k1,f1,rfl,F,hb⟩;rw [eK,<-OI] at F;have hB:=zc HB.o hb;have o:=zg hb j.o;obtain⟨a,y,bz⟩:=zA w1 52 #[.bool b1,.slice A1 n1 c1,.slice E1 k1 f1];have hB:=zc hB a;have o:=zg a o;have F:=F.below a;have hlt3:w.heap.size<w1.heap.size:=(zg hb j.o).lt;clear hb a HB j bz;go_wp2_with fail;generalize w1.alloc (.cells #[.bool b1,.slice A1 n1 c1,.slice E1 k1 f1] 52)=W2 at*;generalize w1.heap.size=g3 at*
 go_loopg [12] (n+1) (λg ix wr=>∃(k:Nat) (b:Bool) (B:ze) (m d:Nat) (E:ze) (u v:Nat),k<=n/\n<g+k/\ix=.int .i64 k/\zh wr g3 52 #[.bool b,.slice B m d,.slice E u v]/\zo wr (zG (xs.take k)) b B m d E u v/\zh wr w.heap.size 52 #[.bool false,.slice none 0 0,.slice none 0 0]/\Below w.heap.size w wr)
 case atStart=>exact⟨0,b1,A1,n1,c1,E1,k1,f1,qM _,za,rfl,y,F,o,hB⟩
 case round=>
  clear F o hB y;obtain⟨k,b,B,m,d,E,u,v,hkn,hg,rfl,z,G,o,hB⟩:=hrel;by_cases hlt:k<n
  ·obtain⟨ad,b1,B1,m1,d1,E1,u1,v1,rfl,-,aj,ak,al,V⟩:=HA.o.get hB hlt;have am:decide ((k:Int)<(n:Int))=true:=decide_eq_true za;have i1:(0:Int)<=(k:Int):=za;have i2:(k:Int)<(n:Int):=za;have H:=zb (S.o k);have R:=zb (S.o (k+1));have T:=zb (ab.o k hlt);have I:=zb (ae.o k hlt);obtain⟨l1,J⟩:∃q,zG (xs.take (k+1))=q:=⟨_,rfl⟩;rw [J] at R I;have P:=zb J;clear J;generalize zG (xs.take k)=l at*;generalize xs.getD k 0=x at*;obtain⟨a,y,bz⟩:=zA wr 52 #[.bool b1,.slice B1 m1 d1,.slice E1 u1 v1];obtain⟨p0,p1,p2⟩:=y.c3;obtain⟨g0,g1,g2⟩:=(zg a z).c3;have HX:=zb (V.below a);have t:=zb (G.below a);have s:=zb (zg a z);have j:=zb (zg a o);have HB:=zb (zc hB a);have ht2:=o.lt;have ht3:=z.lt;clear V G z o hB a y bz;go_wp2_with fail;generalize wr.alloc (.cells #[.bool b1,.slice B1 m1 d1,.slice E1 u1 v1] 52)=W4 at*;(with_reducible refine(uT (HT.o _ HB.o) t.o HX.o H.o T.o).mono ?_);rintro e w3 ⟨b3,A3,n3,c3,E3,k3,f3,rfl,U,hb⟩;clear aj ak al p0 p1 p2 g0 g1 g2;have HZ:zd (zn (K+K0) (l*x)):=H.o.mul T.o;have t:=zb (t.o.below hb);have s:=zb (zg hb s.o);have j:=zb (zg hb j.o);have HB:=zb (zc HB.o hb);obtain⟨a,y,bz⟩:=zA w3 52 #[.bool b3,.slice A3 n3 c3,.slice E3 k3 f3];obtain⟨p0,p1,p2⟩:=y.c3;have HP:=zb (U.below a);have D:=zb y;have t:=zb (t.o.below a);have s:=zb (zg a s.o);have j:=zb (zg a j.o);have HB:=zb (zc HB.o a);clear U hb a y bz HX;go_wp2_with fail;generalize w3.alloc (.cells #[.bool b3,.slice A3 n3 c3,.slice E3 k3 f3] 52)=W5 at*;generalize w3.heap.size=q6 at*;have C:=zb (oP (l*x) b3 A3 n3 c3 E3 k3 f3 W5 (HT.o _ HB.o) HP.o (HZ.o.fit HP.o za));by_cases hd:(l*x).den=1
   ·have e1:l1=l:=by rw [I.o,hd];exact Rat.mul_one l
    have C:=C.o;rw [decide_eq_true hd] at C;refine C.mono ?_;rintro e w4 ⟨rfl,hb⟩;have t:=zb (t.o.below hb);have s:=zb (zg hb s.o);have j:=zb (zg hb j.o);have HB:=zb (zc HB.o hb);clear hb HP D p0 p1 p2 C hd;go_wp2;go_roundg (n - k)
    case measure=>omega
    case rel=>exact⟨k+1,b,B,m,d,E,u,v,za,za,by go_num,s.o,by rw [P.o,e1];exact t.o,j.o,HB.o⟩
   ·have e1:l1=l*(((l*x).den:Nat):Rat):=I.o;have Z:=zb (mQ hd);have aa:=zb (mX hd);have C:=C.o;rw [decide_eq_false hd] at C;refine C.mono ?_;rintro e w4 ⟨rfl,hb⟩;have t:=zb (t.o.below hb);have s:=zb (zg hb s.o);have j:=zb (zg hb j.o);have D:=zb (zg hb D.o);have HP:=zb (HP.o.below hb);have HB:=zb (zc HB.o hb);have ah:zd (zn (K+K0) (((l*x).num:Int):Rat)):=pP HZ.o;have ag:zd (zn (K+K0) (((l*x).den:Nat):Rat)):=pO (L:=0) HZ.o;clear hb p0 p1 p2 C hd;go_upto_region 7 with fail;have GG:=zk w4 (λw' h=>(zj (zg h D.o).c3.1 (zj (zg h D.o).c3.2.1 (zj (zg h D.o).c3.2.2 zO))));refine pW (λhHeld=>?_);refine tl 0 GG.o ?_;refine tl 3 GG.o ?_;refine nm w4 tc [.old 23 (.agg #[.bool b3,.slice A3 n3 c3,.slice E3 k3 f3]),.val 24 (FI (l*x).num),.val 25 (FQ (((l*x).num:Int):Rat)),.old 26 (.agg #[.bool b3,.slice A3 n3 c3,.slice E3 k3 f3]),.val 27 (wR (((l*x).den:Nat):Rat) true),.val 22 (wR (((l*x).den:Nat):Rat) true),.val 28 (FQ (((l*x).den:Nat):Rat)),.val 29 (FV (.bool true)),.box 7 52 #[.bool false,.slice none 0 0,.slice none 0 0] 9 6,.sto 8 6,.val 8 (FV (.bool true))] hHeld (wm (wj (wj (wm (wj (tR 4 (ua 5 wR.l (ua 5 wR.r (tQ (tS (tR 7 nu)))))) ?_)) ?_) ?_)) ?_
    ·intro A w5 hb hk KK Q k;obtain⟨_,r1,b5,A5,n5,c5,E5,k5,f5,rfl,h1⟩:=vF (hk 2 rfl) rfl;have r2:A.tmps.getD 26 undef=.agg #[.bool b3,.slice A3 n3 c3,.slice E3 k3 f3]:=hk 3 rfl;have h2:=HP.o.below hb;go_simp;(with_reducible refine(ia (((l*x).num:Int):Rat) (l*x) b5 A5 n5 c5 E5 k5 f5 b3 A3 n3 c3 E3 k3 f3 _ (HT.o _ (zc HB.o hb)) h1 h2 (ah.o.fit h1 za) (HZ.o.fit h2 za) aa.o).mono ?_);rintro e w6 ⟨b6,A6,n6,c6,E6,k6,f6,rfl,h6,hb⟩;rw [Z.o] at h6;exact k _ _ hb ⟨b6,A6,n6,c6,E6,k6,f6,rfl,h6⟩
    ·intro A w5 hb hk KK Q k;obtain⟨_,r1,b5,A5,n5,c5,rfl,h1⟩:=vF (hk 1 rfl) rfl;go_simp;(with_reducible refine(PO (l*x).num b5 A5 n5 c5 _ (HT.o _ (zc HB.o hb)) h1 (yz (K:=K+K0) (zb HZ.o.num) h1 za)).mono ?_);rintro e w6 ⟨b6,A6,n6,c6,E6,k6,f6,rfl,h6,hb⟩;exact k _ _ hb ⟨b6,A6,n6,c6,E6,k6,f6,rfl,h6⟩
    ·intro A w5 hb hk KK Q k;have r1:A.tmps.getD 23 undef=.agg #[.bool b3,.slice A3 n3 c3,.slice E3 k3 f3]:=hk 0 rfl;have h2:=HP.o.below hb;go_simp;(with_reducible refine(TF (l*x) b3 A3 n3 c3 E3 k3 f3 _ (HT.o _ (zc HB.o hb)) h2 (HZ.o.fit h2 za)).mono ?_);rintro e w6 ⟨b6,A6,n6,c6,rfl,h6,hb⟩;exact k _ _ hb ⟨b6,A6,n6,c6,rfl,h6⟩
    rintro vs ad w8 hb ⟨-,-,-,-,-,-,⟨b6,A6,n6,c6,E6,k6,f6,e6,h6⟩,-,⟨l7,k7⟩,-⟩ -;rw [e6] at k7;simp only [ui,uf,List.foldl,z8];generalize ad 8=q7 at*;have t:=zb (t.o.below hb);have s:=zb (zg hb s.o);have j:=zb (zg hb j.o);have HB:=zb (zc HB.o hb);have HR:=zb h6;have O:zd (zh w8 q7 52 #[.bool b6,.slice A6 n6 c6,.slice E6 k6 f6]):=k7;clear hb e6 h6 k7 l7 GG hHeld HP D;obtain⟨p0,p1,p2⟩:=O.o.c3;obtain⟨g0,g1,g2⟩:=s.o.c3;go_wp2_with fail;(with_reducible refine(uT (HT.o _ HB.o) t.o HR.o H.o ag.o).mono ?_);rintro e w9 ⟨b8,A8,n8,c8,E8,k8,f8,rfl,M,hb⟩;clear p0 p1 p2 g0 g1 g2;rw [<-e1] at M;have z:=zg hb s.o;have o:=zg hb j.o;have hB:=zc HB.o hb;obtain⟨an,aq,ao,ar,ap,au⟩:=y6 z (.bool b8) (.slice A8 n8 c8);have af:=zb (iY M z (y9.s3 _ _ _ _ _ _ _) (vP _ _ (.bool b8) (.slice A8 n8 c8) (.slice E8 k8 f8)));have Y:=zb (xf z (.bool b8) (.slice A8 n8 c8) (.slice E8 k8 f8));have N:=zb (zh.far3 o (show w.heap.size≠g3 by omega) (.bool b8) (.slice A8 n8 c8) (.slice E8 k8 f8));have X:=zb (lV (.bool b8) (.slice A8 n8 c8) (.slice E8 k8 f8) (show w.heap.size<=g3 by omega) hB);clear hb M z o hB HB j s O t HR;go_wp2;go_roundg (n - k)
    case measure=>omega
    case rel=>exact⟨k+1,b8,A8,n8,c8,E8,k8,f8,za,za,by go_num,Y.o,by rw [P.o];exact af.o,N.o,X.o⟩
  ·have hk:k=n:=za;subst hk;have am:decide ((k:Int)<(k:Int))=false:=zF;rw [ac.o] at G;obtain⟨g0,g1,g2⟩:=z.c3;obtain⟨an,aq,ao,ar,ap,au⟩:=y6 o (.bool b) (.slice B m d);obtain⟨r0,r1,r2⟩:=(xf o (.bool b) (.slice B m d) (.slice E u v)).c3;have HG:=zb (va G o hB (qX _));clear G z o hB;go_wp2;refine bodyPost_ret (v:=.agg #[.bool b,.slice B m d,.slice E u v]) (by simp [results,results86,go_sem,r0,r1,r2]) rfl ?_;exact HG.o
def sd (Pc:Value->Prop)(w:World)(v:Value):Prop:=∀g,v.ownBlock=some g->∃(cur:Array Value) (e:TypeId),w.heap[g]?=some (.cells cur e (0,0))/\∀u ∈ cur.toList,Pc u
theorem sd.nil {Pc:Value->Prop}(w:World)(c:Nat):sd Pc w (.slice none 0 c):=λg h=>by simp [Value.ownBlock] at h
section
variable {P:Program}{Pc:Value->Prop}(w:World)
theorem Wg (o:Nat)(t ty e:TypeId)(i:TypeInfo)(z:Value)(size bytes:Nat)(ht:P.underlying t=some (.slice e))(hi:P.info? e=some i)(hz:i.zero=some z)
  (I:i.size=size) (Q:i.bytes=bytes) (T:z.cells.size=size) (hsz:0<size)
  (v:Value) (n:Nat) (xs:List Value) (h:w.ownsRow o e size v n xs)
  (a:Addr) (m c:Nat) (d:List Value) (hl:d.length=m*size) (A:∀j u,d[j]?=some u->w.cell? (a.add j)=some u) (h1:∀u ∈ d,u.oneCell'=true)
  (K:n+m<=maxLen) (B:(n+m)*bytes<=140737488355328) (E:o<=w.heap.size)
  (hv:sd Pc w v) (S:∀u ∈ z.cells.toList,Pc u) (O:∀u ∈ d,Pc u):
  ∃ v' w',(Builtin.append_ #[t,t] ty #[v,.slice (some a) m c]).run P w = .ok v' w' ∧ w'.ownsRow o e size v' (n + m) (xs ++ d) ∧ w.grownBy w' v.ownBlock ∧
   (v'.ownBlock=v.ownBlock\/v'.ownBlock=some w.heap.size)/\sd Pc w' v':=by
 subst I;subst Q;have hsmall:n+m<=9223372036854775807:=by simp only [maxLen] at K;omega
 have C:(xs++d).length=(n+m)*i.size:=by rw [qB,h.1,hl,QB]
 have grown : ∀ (old : Nat),old < n + m → (∀ u ∈ xs,Pc u) → ∀ (row : Option Nat),
   (w.drew.alloc (.cells (xs.toArray ++ d.toArray ++ Builtin.zeroCells z.cells (grownCap w (n + m) old e - (n + m))) e)).ownsRow o e i.size
     (.slice (some ⟨w.heap.size,0,none⟩) (n+m) (grownCap w (n+m) old e)) (n+m) (xs++d)/\
   w.grownBy (w.drew.alloc (.cells (xs.toArray++d.toArray++Builtin.zeroCells z.cells (grownCap w (n+m) old e - (n+m))) e)) row/\
   sd Pc (w.drew.alloc (.cells (xs.toArray++d.toArray++Builtin.zeroCells z.cells (grownCap w (n+m) old e - (n+m))) e)) (.slice (some ⟨w.heap.size,0,none⟩) (n+m) (grownCap w (n+m) old e)):=by
  intro old ho J row;have R:=grownCap_ge w (n+m) old e;have F:grownCap w (n+m) old e<=maxLen:=grownCap_le_maxLen w (n+m) old e K;refine⟨⟨C,.inr ⟨w.heap.size,_,_,rfl,E,heap_alloc_new w.drew _,R,F,?_,?_⟩⟩,⟨rfl,rfl,rfl,zF,λk hk _=>heap_alloc_old w.drew _ hk⟩,?_⟩
  ·simp only [Array.size_append,XG,size_zeroCells,T,h.1,hl,<-QB];congr 1;omega
  ·simp only [YG,xQ];rw [<-xQ,<-C];exact jJ
  ·intro g hg;simp [Value.ownBlock] at hg;subst hg;refine⟨_,_,heap_alloc_new w.drew _,λu hu=>?_⟩;simp only [YG,yX] at hu;rcases hu with(hu|hu)|hu
   ·exact J u hu
   ·exact O u hu
   ·exact S u (Xu za hu)
 rcases h.2 with⟨rfl,rfl⟩|⟨g,cap,cur,rfl,hbg,hg,hnc,F,hcs,htake⟩
 ·have hx:xs=[]:=QV (by simpa using h.1);subst hx;by_cases hm:m=0
  ·subst hm;have hn:d=[]:=QV (by simpa using hl);subst hn;refine⟨.slice none 0 0,w,?_,XR w o e i.size,⟨rfl,rfl,rfl,qX _,λ_ _ _=>rfl⟩,Or.inl rfl,sd.nil _ _⟩;simp [Builtin.append_,run_underlying ht,sizeOf,typeInfo,hi,Builtin.lenOf,Builtin.firstCells,loadCells,loadCellsFrom]
  ·have hr:=run_append_nil (P:=P) w t ty e i z ht hi hz a m c d hl A za za (by have hb:=B;simp only [xH] at hb;omega);have y:=grown 0 za (λu hu=>by cases hu) (Value.ownBlock (.slice none 0 0));simp only [xH,XM,Array.empty_append] at y⊢;exact⟨_,_,hr,y.1,y.2.1,Or.inr rfl,y.2.2⟩
 ·obtain⟨s,e2,D,G⟩:=hv g rfl;have L:s=cur:=by
   rw [hg] at D;injection D with D;injection D with D;exact D.symm
  subst L;by_cases hroom:n+m<=cap
  ·have M:n*i.size+d.length<=s.size:=by rw [hl,hcs,<-QB];exact qS _ hroom
   have hr:=run_append_room (P:=P) w t ty e i ht hi g n cap s hg a m c d hl A h1 hroom M;refine⟨_,_,hr,⟨C,.inr ⟨g,cap,_,rfl,hbg,setRow_heap w g s _ e _ hg,hroom,F,?_,?_⟩⟩,⟨rfl,rfl,rfl,zF,λk _ hk=>setRow_other w g k _ (λe=>hk (by simp [Value.ownBlock,e]))⟩,Or.inl rfl,?_⟩
   ·simp only [XG,qB,qE,QE,XO];omega
   ·rw [htake,<-C];exact jJ
   ·intro g' N;simp [Value.ownBlock] at N;subst N;refine⟨_,_,setRow_heap w g s _ e _ hg,λu hu=>?_⟩;rw [yX,yX] at hu;rcases hu with(hu|hu)|hu
    ·exact G u (XX hu)
    ·exact O u hu
    ·exact G u (xP hu)
  ·have H:∀j u,xs[j]?=some u->w.cell? ((⟨g,0,none⟩:Addr).add j)=some u:=h.cells (g:=g) rfl;have hr:=run_append_grow (P:=P) w t ty e i z ht hi hz ⟨g,0,none⟩ n cap xs h.1 H a m c d hl A za za (growslice_fits za B);have J:∀u ∈ xs,Pc u:=λu hu=>G u (XX (by rw [htake];exact hu));have y:=grown cap za J (Value.ownBlock (.slice (some ⟨g,0,none⟩) n cap));exact⟨_,_,hr,y.1,y.2.1,Or.inr rfl,y.2.2⟩
end
theorem WG {P:Program}{Pc:Value->Prop}(w:World){o:Oper}{a:Act}{K:Act->World->Prop}{Q:Exit->Act->World->Prop}(s x:Operand)(t:TypeId)
  (ho:o.op=.call {callee:=.builtin .append,args:=#[s,x],argTypes:=#[t,t]})
  (g:Nat) (e:TypeId) (i:TypeInfo) (z:Value) (size bytes:Nat) (ht:P.underlying t=some (.slice e)) (hi:P.info? e=some i) (hz:i.zero=some z)
  (B:i.size=size) (E:i.bytes=bytes) (H:z.cells.size=size) (hsz:0<size)
  (v:Value) (n:Nat) (xs:List Value) (hs:a.eval s=v) (C:w.ownsRow g e size v n xs)
  (ad:Addr) (m c:Nat) (d:List Value) (hx:a.eval x=.slice (some ad) m c) (hl:d.length=m*size) (A:∀j u,d[j]?=some u->w.cell? (ad.add j)=some u) (h1:∀u ∈ d,u.oneCell'=true)
  (D:n+m<=maxLen) (k:(n+m)*bytes<=140737488355328) (y:g<=w.heap.size)
  (hv:sd Pc w v) (G:∀u ∈ z.cells.toList,Pc u) (F:∀u ∈ d,Pc u)
  (h:∀v' w',w'.ownsRow g e size v' (n+m) (xs++d)->w.grownBy w' v.ownBlock->(v'.ownBlock=v.ownBlock\/v'.ownBlock=some w.heap.size)->sd Pc w' v'->K (a.put o.dst v') w'):Oper.wp P o a w K Q:=by
 obtain⟨v',w',hr,h2,h3,h4,h5⟩:=Wg (P:=P) w g t o.type e i z size bytes ht hi hz B E H hsz v n xs C ad m c d hl A h1 D k y hv G F;unfold Oper.wp execOp;simp only [ho,resolve,invoke,builtin,Sem.run_bind,Sem.run_pure,Result.andThen_ok,yM,yQ,List.map_nil,hs,hx,hr];exact h v' w' h2 h3 h4 h5
def VZ (z:Nat):RP Rat:=λw A n c xs=>zR w A n c xs/\∀ad,A=some ad->z<ad.block
theorem vf (z:Nat):tp (VZ z) where
 len h:=h.1.len
 below h hb:=⟨h.1.keep hb,h.2⟩
 offS h hk hs ho:=⟨U7 z6 h.1 hk hs ho,h.2⟩
 nil w:=⟨yg.nil w,λad e=>by cases e⟩
theorem oF (h:zR w A n c xs)(k:∀ad,A=some ad->ad.block≠g)(hk:zh w g t cs)(a:vY .u64 cs)(ho:zZ g w w'):zR w' A n c xs:=by
 refine⟨h.len,h.fits,h.most,λi x hi=>?_⟩;obtain⟨ad,b,B,m,d,F,u,v,e,h1,h2,h3,h4,h5⟩:=h.num i x hi;have hc:∀j,w'.cell? (ad.add j)=w.cell? (ad.add j):=λj=>ho.2 _ (by rw [y4];exact h1) (by rw [y4];exact k ad e);exact⟨ad,b,B,m,d,F,u,v,e,qJ h1 ho.1,(hc _).trans h2,(hc _).trans h3,(hc _).trans h4,wD hk a ho h5⟩
theorem Yq (h:VZ z w A n c xs)(hk:zh w z t cs)(a:vY .u64 cs)(ho:zZ z w w'):VZ z w' A n c xs:=
 ⟨oF h.1 (λad e=>by have:=h.2 ad e;omega) hk a ho,h.2⟩
theorem lE (h:VZ z w A n c xs)(hk:zh w g t cs)(hs:∀u ∈ cs.toList,∀b,u≠.bool b)(a:vY .u64 cs)(ho:zZ g w w'):VZ z w' A n c xs:=
 ⟨Yc h.1 hk hs a ho,h.2⟩
theorem wv.off {α:Type}{R:RP α}{j:Nat}{Ls:List (List α)}(h:wv R w j t v Ls vs)(hb:∀g s cs,v.ownBlock=some g->zh w g s cs->zh w' g s cs)
  (hE:∀{B:ze} {m d:Nat} {L:List α},R w B m d L->R w' B m d L):wv R w' j t v Ls vs:=by
 refine⟨⟨h.own.1,?_⟩,λg e=>?_,λi L hi=>?_⟩
 ·rcases h.own.2 with h1|⟨g,cap,a,e1,e2,e3,e4⟩
  ·exact .inl h1
  ·exact .inr ⟨g,cap,a,e1,e2,hb g t a (by rw [e1];rfl) e3,e4⟩
 ·obtain⟨a,s,h1,h2⟩:=h.sl g e;exact⟨a,s,hb g s a e h1,h2⟩
 ·obtain⟨B,d,hv,hw⟩:=h.num i L hi;exact⟨B,d,hv,hE hw⟩
theorem wv.at_ {α:Type}{R:RP α}{n:Nat}{k:Nat}{Ls:List (List α)}(h:wv R w d t (.slice A k c) Ls vs)(hn:0<Ls.length):∃g a,A=some ⟨g,0,none⟩/\d<=g/\k=Ls.length/\k<=c/\c<=maxLen/\zh w g t a/\a.size=c/\a.toList.take k=vs/\∀u ∈ a.toList,xg u:=by
 rcases h.own.2 with⟨_,h0⟩|⟨g,cap,a,e1,e2,e3,e4,e5,e6,e7⟩
 ·omega
 ·injection e1 with a1 a2 a3;subst a1 a2 a3;obtain⟨cur2,s,h1,h2⟩:=h.sl g rfl;rw [e3] at h1;injection h1 with h1;injection h1 with h1 _;subst h1;exact⟨g,a,rfl,e2,rfl,e4,e5,e3,za,by rw [<-e7,xO],h2⟩
theorem wv.set_ {α:Type}{R:RP α}(hR:tp R){w:World}{a:Nat}{t:TypeId}{g k c:Nat}{Ls:List (List α)}{vs:List Value}(h:wv R w a t (.slice (some ⟨g,0,none⟩) k c) Ls vs){i:Nat}(hi:i<Ls.length){L:List α}{B:ze}{m d:Nat}(hx:R w B m d L)(hm:L.length=m):
  wv R (w.setCell ⟨g,i,none⟩ (.slice B m d)) a t (.slice (some ⟨g,0,none⟩) k c) (Ls.set i L) (vs.set i (.slice B m d)):=by
 subst hm;obtain⟨g',cur,e1,e2,e3,e4,e5,hk,e6,e7,hs⟩:=h.at_ (n:=0) za;injection e1 with e1;injection e1 with e1;subst e1;have hl:=h.len;have ho:zZ g w (w.setCell ⟨g,i,none⟩ (.slice B L.length d)):=zZ.of_far ((zT.refl g w).set_ i _);have o:=hk.set_ i (.slice B L.length d);refine⟨⟨by rw [QY,QY,hl,xO],.inr ⟨g,c,_,by rw [QY,<-e3],e2,o,by rw [QY,<-e3];exact e4,e5,by simp;exact e6,?_⟩⟩,λq hq=>?_,λj M hj=>?_⟩
 ·rw [QY,<-e3,xO,QO,YL,e7]
 ·simp [Value.ownBlock] at hq;subst hq;refine⟨_,_,o,λu hu=>?_⟩;rw [QO] at hu;rcases xJ hu with hu|rfl
  ·exact hs u hu
  ·exact⟨_,_,_,rfl⟩
 ·by_cases hij:i=j
  ·subst hij;rw [XQ hi] at hj;injection hj with hj;subst hj;exact⟨B,d,by rw [XQ za],hR.offS hx hk hs ho⟩
  ·rw [XY hij] at hj;obtain⟨B',d',c1,c2⟩:=h.num j M hj;exact⟨B',d',by rw [XY hij];exact c1,hR.offS c2 hk hs ho⟩
def sa (u:Value):Prop:=∃z,u=.int .i64 z
def wI (ld:List Nat):List Value:=ld.map λl:Nat=>.int .i64 (l:Int)
structure x6 (w:World)(base:Nat)(v:Value)(ld:List Nat):Prop where
 own:w.ownsRow base 3 1 v ld.length (wI ld)
 pr:sd sa w v
theorem x6.nil (w:World)(a:Nat):x6 w a (.slice none 0 0) []:=⟨XR _ _ _ _,sd.nil _ _⟩
theorem x6.off (h:x6 w d v ld)(hb:∀g s cs,v.ownBlock=some g->zh w g s cs->zh w' g s cs):x6 w' d v ld:=by
 refine⟨⟨h.own.1,?_⟩,λg e=>?_⟩
 ·rcases h.own.2 with h1|⟨g,cap,a,e1,e2,e3,e4⟩
  ·exact .inl h1
  ·exact .inr ⟨g,cap,a,e1,e2,hb g _ a (by rw [e1];rfl) e3,e4⟩
 ·obtain⟨a,s,h1,h2⟩:=h.pr g e;exact⟨a,s,hb g s a e h1,h2⟩
theorem x6.shape {a:Nat}(h:x6 w a v ld):∃A c,v=.slice A ld.length c/\ld.length<=c/\c<=9223372036854775807/\(∀ad,A=some ad->a<=ad.block)/\∀i,i<ld.length->∃ad,A=some ad/\w.cell? (ad.add i)=some (.int .i64 (ld.getD i 0:Nat)):=by
 rcases h.own.2 with⟨rfl,h0⟩|⟨g,cap,cur,rfl,hbg,hg,hnc,hcm,hcs,htake⟩
 ·exact⟨none,0,by rw [h0],za,zf,(λad e=>by cases e),λi hi=>by omega⟩
 ·have d:=h.own.cells (g:=g) rfl;refine⟨some ⟨g,0,none⟩,cap,rfl,hnc,by unfold maxLen at hcm;omega,(λad e=>by injection e with e;subst e;exact hbg),λi hi=>⟨_,rfl,d _ _ ?_⟩⟩;unfold wI;rw [qW,qQ,qY hi];rfl
theorem RH (hs:∀u ∈ cs.toList,sa u):∀u ∈ cs.toList,∀b,u≠.bool b:=λu hu b e=>by
 obtain⟨z,e2⟩:=hs u hu;rw [e2] at e;cases e
theorem jU (hs:∀u ∈ cs.toList,sa u):vY .u64 cs:=λu hu z e=>by
 obtain⟨z',e2⟩:=hs u hu;rw [e2] at e;cases e
theorem tZ (hs:∀u ∈ cs.toList,xg u):vY .u64 cs:=λu hu z e=>by
 obtain⟨A,n,c,e2⟩:=hs u hu;rw [e2] at e;cases e
def RV (w:World)(x:Rat)(x0 x1 x2:Value):Prop:=∃(b:Bool) (A:ze) (n c:Nat) (E:ze) (k f:Nat),x0=.bool b/\x1=.slice A n c/\x2=.slice E k f/\zo w x b A n c E k f
theorem RV.of {b:Bool}{E:ze}{f:Nat}(h:zo w x b A n c E k f):RV w x (.bool b) (.slice A n c) (.slice E k f):=⟨_,_,_,_,_,_,_,rfl,rfl,rfl,h⟩
theorem RV.below (h:RV w x x0 x1 x2)(hb:Below w.heap.size w w'):RV w' x x0 x1 x2:=by
 obtain⟨b,A,n,c,E,k,f,e0,e1,e2,hr⟩:=h;exact⟨b,A,n,c,E,k,f,e0,e1,e2,hr.below hb⟩
theorem RV.off (h:RV w x x0 x1 x2)(hk:zh w g t cs)(a:vY .u64 cs)(ho:zZ g w w'):RV w' x x0 x1 x2:=by
 obtain⟨b,A,n,c,E,k,f,e0,e1,e2,hr⟩:=h;exact⟨b,A,n,c,E,k,f,e0,e1,e2,wD hk a ho hr⟩
structure yb (w:World)(g:Nat)(e:wL)(rd:Rat)(A:ze)(n cA:Nat)(B:ze)(k cB:Nat)(x0 x1 x2 y0 y1 y2:Value):Prop where
 blk:zh w g 106 #[.slice A n cA,.slice B k cB,x0,x1,x2,y0,y1,y2]
 hn:e.S.length=n
 hk:e.ld.length=k
 rows:∃vs,wv (VZ g) w g 41 (.slice A n cA) e.S vs
 lds:x6 w g (.slice B k cB) e.ld
 lead:RV w e.p x0 x1 x2
 rsd:RV w rd y0 y1 y2
section
variable {w w':World}{g:Nat}{e:wL}{rd:Rat}{A:ze}{n cA:Nat}{B:ze}{k cB:Nat}{x0 x1 x2 y0 y1 y2:Value}
theorem yb.below (h:yb w g e rd A n cA B k cB x0 x1 x2 y0 y1 y2)(hb:Below w.heap.size w w'):yb w' g e rd A n cA B k cB x0 x1 x2 y0 y1 y2:=by
 obtain⟨vs,hr⟩:=h.rows;exact{blk:=zg hb h.blk,hn:=h.hn,hk:=h.hk,rows:=⟨vs,hr.below (vf g) hb⟩,lds:=h.lds.off λq s cs _ hq=>zg hb hq,lead:=h.lead.below hb,rsd:=h.rsd.below hb}
theorem yb.nok (h:yb w g e rd A n cA B k cB x0 x1 x2 y0 y1 y2):vY .u64 #[.slice A n cA,.slice B k cB,x0,x1,x2,y0,y1,y2]:=by
 obtain⟨_,_,_,_,_,_,_,rfl,rfl,rfl,_⟩:=h.lead;obtain⟨_,_,_,_,_,_,_,rfl,rfl,rfl,_⟩:=h.rsd;intro v hv z e;simp at hv;rcases hv with rfl|rfl|rfl|rfl|rfl|rfl|rfl|rfl<;>cases e
theorem tv {q:Nat}{s:TypeId}{ds:Array Value}(h:zh w q t cs)(h':zh w q s ds):t=s:=by
 unfold zh at h h';rw [h] at h';injection h' with h';injection h' with _ h'
theorem yb.neA (h:yb w g e rd A n cA B k cB x0 x1 x2 y0 y1 y2){q:Nat}(hq:(Value.slice A n cA).ownBlock=some q):q≠g/\∃cs,zh w q 41 cs/\∀u ∈ cs.toList,xg u:=by
 obtain⟨vs,hr⟩:=h.rows;rcases hr.own.2 with⟨h1,_⟩|⟨g',cap,cur,e1,e2,e3,_⟩
 ·rw [h1] at hq;cases hq
 ·rw [e1] at hq;simp [Value.ownBlock] at hq;subst hq;obtain⟨a,s,h1,h2⟩:=hr.sl g' (by rw [e1];rfl);have:a=cur:=by rw [e3] at h1;injection h1 with h1;injection h1 with h1 _;exact h1.symm
  subst this;exact⟨λe=>absurd (tv e3 (e▸h.blk)) zf,a,e3,h2⟩
theorem yb.neB (h:yb w g e rd A n cA B k cB x0 x1 x2 y0 y1 y2){q:Nat}(hq:(Value.slice B k cB).ownBlock=some q):q≠g/\∃cs,zh w q 3 cs/\∀u ∈ cs.toList,sa u:=by
 rcases h.lds.own.2 with⟨h1,_⟩|⟨g',cap,cur,e1,e2,e3,_⟩
 ·rw [h1] at hq;cases hq
 ·rw [e1] at hq;simp [Value.ownBlock] at hq;subst hq;obtain⟨a,s,h1,h2⟩:=h.lds.pr g' (by rw [e1];rfl);have:a=cur:=by rw [e3] at h1;injection h1 with h1;injection h1 with h1 _;exact h1.symm
  subst this;exact⟨λe=>absurd (tv e3 (e▸h.blk)) zf,a,e3,h2⟩
theorem yb.setRow {q:Nat}(h:yb w g e rd (some ⟨q,0,none⟩) n cA B k cB x0 x1 x2 y0 y1 y2){i:Nat}(hi:i<n){L:List Rat}{C:ze}{m d:Nat}(hx:VZ g w C m d L)(hm:L.length=m):yb (w.setCell ⟨q,i,none⟩ (.slice C m d)) g {e with S:=e.S.set i L} rd (some ⟨q,0,none⟩) n cA B k cB x0 x1 x2 y0 y1 y2:=by
 obtain⟨a,cs,hq,hs⟩:=h.neA (q:=q) rfl;obtain⟨vs,hr⟩:=h.rows;have ho:zZ q w (w.setCell ⟨q,i,none⟩ (.slice C m d)):=zZ.of_far ((zT.refl q w).set_ i _);exact {
  blk:=zh.far (p:=⟨q,i,none⟩) h.blk (Ne.symm a) _
  hn:=by rw [<-h.hn];exact QY
  hk:=h.hk
  rows:=⟨_,hr.set_ (vf g) (by rw [h.hn];exact hi) hx hm⟩
  lds:=h.lds.off λp s ds hp hk=>zh.far (p:=⟨q,i,none⟩) hk (λe=>by
   obtain⟨_,ds',h1,_⟩:=h.neB hp;subst e;exact absurd (tv hq h1) zf) _
  lead:=h.lead.off hq (tZ hs) ho
  rsd:=h.rsd.off hq (tZ hs) ho}
theorem yb.store (h:yb w g e rd A n cA B k cB x0 x1 x2 y0 y1 y2)(hf:zT g w w'){z0 z1 z2 u0 u1 u2:Value}{p d:Rat}(hb:zh w' g 106 #[.slice A n cA,.slice B k cB,z0,z1,z2,u0,u1,u2])(hp:RV w p z0 z1 z2)(i:RV w d u0 u1 u2)(a:∀q s cs,q≠g->zh w q s cs->zh w' q s cs):yb w' g {e with p:=p} d A n cA B k cB z0 z1 z2 u0 u1 u2:=by
 obtain⟨vs,hr⟩:=h.rows;have ho:=zZ.of_far hf;exact {
  blk:=hb
  hn:=h.hn
  hk:=h.hk
  rows:=⟨vs,hr.off (λq s cs hq hk=>a q s cs (h.neA hq).1 hk) (λhx=>Yq hx h.blk h.nok ho)⟩
  lds:=h.lds.off λq s cs hq hk=>a q s cs (h.neB hq).1 hk
  lead:=hp.off h.blk h.nok ho
  rsd:=i.off h.blk h.nok ho}
end
section
variable {w:World}{g:Nat}{st:wL}{rd:Rat}{A:ze}{n cA:Nat}{B:ze}{k cB:Nat}{x0 x1 x2 y0 y1 y2:Value}
theorem yb.cells (h:yb w g st rd A n cA B k cB x0 x1 x2 y0 y1 y2):w.cell? ⟨g,0,none⟩=some (.slice A n cA)/\w.cell? ⟨g,1,none⟩=some (.slice B k cB)/\w.cell? ⟨g,2,none⟩=some x0/\w.cell? ⟨g,3,none⟩=some x1/\w.cell? ⟨g,4,none⟩=some x2/\w.cell? ⟨g,5,none⟩=some y0/\w.cell? ⟨g,6,none⟩=some y1/\w.cell? ⟨g,7,none⟩=some y2:=
 ⟨h.blk.cell 0,h.blk.cell 1,h.blk.cell 2,h.blk.cell 3,h.blk.cell 4,h.blk.cell 5,h.blk.cell 6,h.blk.cell 7⟩
theorem SJ {m dr dy:Nat}{R Y:ze}{row by_:List Rat}(hT:zu w)(hE:yb w g st rd A n cA B k cB x0 x1 x2 y0 y1 y2)(hr:zR w R m dr row)(hy:zR w Y m dy by_)(hc:c<m)(zr:zD K row)(zy:zD K by_)(zp:zn K st.p)(hp:st.p≠0)(hm:m<=1073741824:=by omega)(hK:4*K+1<=33554432:=by omega):
  Calls prog 135 #[.pointer (some ⟨g,0,none⟩),.slice R m dr,.slice Y m dy,.int .i64 (c:Int)] w (sA w m (sB st.p row by_ c)):=by
 obtain⟨b0,A0,n0,c0,E0,k0,f0,rfl,rfl,rfl,G⟩:=hE.lead;have HP:=zk w (λw' hb=>G.below hb);have HC:=zk w (λw' hb=>(hE.below hb).cells);have HT:=zk w (λw' hb=>hT.on hb);have HR:=zk w (λw' hb=>hr.keep hb);have HY:=zk w (λw' hb=>hy.keep hb);have j:=zb (zy.at_ (k:=c) (by rw [hy.len];exact hc));have o:=zb (zr.at_ (k:=c) (by rw [hr.len];exact hc));have s:=zb zr;have v:=zb zy;have u:=zb zp;have P:=zb hp;obtain⟨ady,b1,B1,m1,d1,E1,u1,v1,rfl,-,h0,h1,h2,L⟩:=hy.get (qZ _ _) hc;obtain⟨adr,b2,B2,m2,d2,E2,u2,v2,rfl,-,h3,h4,h5,H⟩:=hr.get (qZ _ _) hc;have S:=zk w (λw' hb=>L.below hb);have t:=zk w (λw' hb=>H.below hb);have i1:(0:Int)<=(c:Int):=za;have i2:(c:Int)<(m:Int):=za;have i3:c<m:=hc;have HQ:zd (sB st.p row by_ c=zL st.p⁻¹ (vV (zL (by_.getD c 0) row) (-row.getD c 0) by_)):=rfl;rw [HQ.o];generalize by_.getD c 0=yc at*;generalize row.getD c 0=M at*;unfold sA;clear hT hE hr hy zr zy zp hp G L H hc HQ;go_enter func135,ntmps135;go_wp2_with fail;have HB:=zb ((qZ w.heap.size w).drew);refine rg (zj h0 (zj h1 (zj h2 (zj h3 (zj h4 (zj h5 zO)))))) (λhHeld=>?_);clear h0 h1 h2 h3 h4 h5;generalize w.drew=D at*;refine tk 0 ?_;refine tk 1 ?_;refine tk 2 ?_;refine tk 3 ?_;refine tk 4 ?_;refine tk 6 ?_;refine tk 7 ?_;refine tk 8 ?_;refine tk 9 ?_;refine tk 11 ?_;refine rc 5 (λKK a=>?_);go_simp;(with_reducible refine(vB (HT.o _ HB.o) (S.o _ HB.o) (HR.o _ HB.o) j.o s.o).mono ?_);rintro eo w1 ⟨g1,rfl,U,C,hb⟩;refine a.out _ _ (Cs.below hHeld hb) (λhHeld=>?_);clear a KK;have HB:=zb (zc HB.o hb);have h:=zb (yt C);clear hb C U;refine rc 10 (λKK a=>?_);go_simp;(with_reducible refine(eX M b2 B2 m2 d2 E2 u2 v2 _ (HT.o _ HB.o) (t.o _ HB.o) (o.o.fit (t.o _ HB.o) za)).mono ?_);rintro eo w2 ⟨b3,A3,n3,c3,E3,k3,f3,rfl,I,hb⟩;refine a.out _ _ (Cs.below hHeld hb) (λhHeld=>?_);clear a KK;have HB:=zb (zc HB.o hb);have h:=zb (h.o.keep hb);have HN:=zb I;clear hb I;refine rc 12 (λKK a=>?_);go_simp;(with_reducible refine(UQ (HT.o _ HB.o) h.o HN.o (HY.o _ HB.o) (zD.scale j.o s.o) o.o.neg v.o).mono ?_);rintro eo w3 ⟨g4,rfl,V,E,hb⟩;refine a.out _ _ (Cs.below hHeld hb) (λhHeld=>?_);clear a KK;have HB:=zb (zc HB.o hb);have d:=zb (yt E);have T:zd (zD ((K+K)+(K+K)+1) (vV (zL yc row) (-M) by_)):=zD.addT (zD.scale j.o s.o) o.o.neg v.o;clear hb E V h HN;refine tk 13 ?_;refine tk 14 ?_;refine tk 15 ?_;refine tk 16 ?_;refine tk 17 ?_;refine zV ?_;clear hHeld;obtain⟨-,-,p2,p3,p4,-⟩:=HC.o _ HB.o;go_wp2_with fail;clear p2 p3 p4;(with_reducible refine(gC st.p b0 A0 n0 c0 E0 k0 f0 _ (HT.o _ HB.o) (HP.o _ HB.o) (u.o.fit (HP.o _ HB.o) za) P.o).mono ?_);rintro eo w5 ⟨b5,A5,n5,c5,E5,k5,f5,rfl,J,hb⟩;have HB:=zb (zc HB.o hb);have d:=zb (d.o.keep hb);obtain⟨i,y,-⟩:=zA w5 52 #[.bool b5,.slice A5 n5 c5,.slice E5 k5 f5];obtain⟨p0,p1,p2⟩:=y.c3;have HI:=zb (J.below i);have HB:=zb (zc HB.o i);have d:=zb (d.o.keep i);clear hb J i y;go_wp2_with fail;clear p0 p1 p2;generalize w5.alloc (.cells #[.bool b5,.slice A5 n5 c5,.slice E5 k5 f5] 52)=W6 at*;(with_reducible refine(vB (HT.o _ HB.o) HI.o d.o u.o.inv T.o).mono ?_);rintro eo w7 ⟨g7,rfl,z,F,hb⟩;have N:=zb (zc HB.o hb);have O:w.heap.size<=g7:=qH HB.o.size z;have Q:=zb F;clear hb F z HB d HI;go_wp2;go_ret;exact⟨g7,rfl,O,Q.o,N.o⟩
end
