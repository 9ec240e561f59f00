/- What this claim leans on. -/
import Derived.Test.YtielpgdebeggbaaGreatDoorWMGrid
set_option linter.unusedVariables false
set_option linter.unusedSimpArgs false
namespace Go.Proofs.YtielpgdebeggbaaGreatDoor
open Go Go.RowKit Go.Proofs.Tryz
set_option maxHeartbeats 16000000
set_option maxRecDepth 100000
variable {K c n:Nat}{x:Rat}{w:World}{A:ze}
theorem LI.szq (h:LI K x)(hK:0<K):zn K x:=by
 obtain⟨z,rfl,hz⟩:=h;exact zn.whole hz hK
theorem ph {L:Nat}(hz:zn K x):zn K ((x.den:Nat):Rat):=by
 by_cases hK:K=0
 ·subst hK;exact absurd hz.den (by have:=x.den_nz;unfold Sz;rw [yV];omega)
 ·rw [<-YU];exact zn.whole hz.den zb
theorem pi (hz:zn K x):zn K (x.num:Rat):=by
 by_cases hK:K=0
 ·subst hK;exact absurd hz.den (by have:=x.den_nz;unfold Sz;rw [yV];omega)
 ·exact zn.whole hz.num zb
theorem mq (h:¬x.den=1):x≠0:=λe=>h (by rw [e];rfl)
theorem zh.far3 {g q:Nat}{t:TypeId}{cs:Array Value}(h:zh w g t cs)(a:g≠q)(x y z:Value):zh (((w.setCell ⟨q,0,none⟩ x).setCell ⟨q,1,none⟩ y).setCell ⟨q,2,none⟩ z) g t cs:=zh.far (p:=⟨q,2,none⟩) (zh.far (p:=⟨q,1,none⟩) (zh.far (p:=⟨q,0,none⟩) h a x) a y) a z
theorem Zc:((1:Int):Rat)=1:=by decide+kernel
theorem Pr:zI []=1:=rfl
theorem Vy {K0:Nat}{xs:List Rat}(hT:zt w)(ha:zR w A n c xs)(hx:zE K0 xs)(hK:LI K (zI xs))(hn:n<=1073741824:=by omega)(h9:K+K0<=33554432:=by omega)(ai:0<K:=by omega):
  Calls prog 86 #[.slice A n c] w (yi w (zI xs)):=by
 have hl:=ha.len;have ab:zd (∀i,i<n->zn K0 (xs.getD i 0)):=λi hi=>hx.at_ zb;have S:zd (∀k,zn K (zI (xs.take k))):=λk=>(Ra hK).szq ai;have ae:zd (∀k,k<n->zI (xs.take (k+1))=zI (xs.take k)*(((zI (xs.take k)*xs.getD k 0).den:Nat):Rat)):=λk hk=>S9 zb;have ac:zd (zI (xs.take n)=zI xs):=by rw [qV zb];exact rfl
 have HA:=za ha;have HT:=zj w (λw' hb=>hT.on hb);obtain⟨a,y,bz⟩:=zu w 52 #[.bool false,.slice none 0 0,.slice none 0 0];have HB:=za a;have j:=za y;have i0:(0:Int)<=(n:Int):=zb;unfold yi;clear hT ha hx hK hl a y bz;go_enter func86,ntmps86;go_wp2_with fail;generalize w.alloc (.cells #[.bool false,.slice none 0 0,.slice none 0 0] 52)=W1 at*;(with_reducible refine(jo 1 _ (HT.o _ HB.o) zf zf).mono ?_);rintro e w1 ⟨b1,A1,n1,c1,E1,k1,f1,rfl,F,hb⟩;rw [Zc,<-Pr] at F;have hB:=zc HB.o hb;have o:=zg hb j.o;obtain⟨a,y,bz⟩:=zu w1 52 #[.bool b1,.slice A1 n1 c1,.slice E1 k1 f1];have hB:=zc hB a;have o:=zg a o;have F:=F.below a;have hlt3:w.heap.size<w1.heap.size:=(zg hb j.o).lt;clear hb a HB j bz;go_wp2_with fail;generalize w1.alloc (.cells #[.bool b1,.slice A1 n1 c1,.slice E1 k1 f1] 52)=W2 at*;generalize w1.heap.size=g3 at*
 go_loopg [12] (n+1) (λg ix wr=>∃(k:Nat) (b:Bool) (B:ze) (m d:Nat) (E:ze) (u v:Nat),k<=n/\n<g+k/\ix=.int .i64 k/\zh wr g3 52 #[.bool b,.slice B m d,.slice E u v]/\zo wr (zI (xs.take k)) b B m d E u v/\zh wr w.heap.size 52 #[.bool false,.slice none 0 0,.slice none 0 0]/\Below w.heap.size w wr)
 case atStart=>exact⟨0,b1,A1,n1,c1,E1,k1,f1,qW _,zb,rfl,y,F,o,hB⟩
 case round=>
  clear F o hB y;obtain⟨k,b,B,m,d,E,u,v,hkn,hg,rfl,z,G,o,hB⟩:=hrel;by_cases hlt:k<n
  ·obtain⟨ad,b1,B1,m1,d1,E1,u1,v1,rfl,-,aj,ak,al,V⟩:=HA.o.get hB hlt;have am:decide ((k:Int)<(n:Int))=true:=decide_eq_true zb;have i1:(0:Int)<=(k:Int):=zb;have i2:(k:Int)<(n:Int):=zb;have H:=za (S.o k);have R:=za (S.o (k+1));have T:=za (ab.o k hlt);have I:=za (ae.o k hlt);obtain⟨l1,J⟩:∃q,zI (xs.take (k+1))=q:=⟨_,rfl⟩;rw [J] at R I;have P:=za J;clear J;generalize zI (xs.take k)=l at*;generalize xs.getD k 0=x at*;obtain⟨a,y,bz⟩:=zu wr 52 #[.bool b1,.slice B1 m1 d1,.slice E1 u1 v1];obtain⟨p0,p1,p2⟩:=y.c3;obtain⟨g0,g1,g2⟩:=(zg a z).c3;have HX:=za (V.below a);have t:=za (G.below a);have s:=za (zg a z);have j:=za (zg a o);have HB:=za (zc hB a);have ht2:=o.lt;have ht3:=z.lt;clear V G z o hB a y bz;go_wp2_with fail;generalize wr.alloc (.cells #[.bool b1,.slice B1 m1 d1,.slice E1 u1 v1] 52)=W4 at*;(with_reducible refine(vP (HT.o _ HB.o) t.o HX.o H.o T.o).mono ?_);rintro e w3 ⟨b3,A3,n3,c3,E3,k3,f3,rfl,U,hb⟩;clear aj ak al p0 p1 p2 g0 g1 g2;have HZ:zd (zn (K+K0) (l*x)):=H.o.mul T.o;have t:=za (t.o.below hb);have s:=za (zg hb s.o);have j:=za (zg hb j.o);have HB:=za (zc HB.o hb);obtain⟨a,y,bz⟩:=zu w3 52 #[.bool b3,.slice A3 n3 c3,.slice E3 k3 f3];obtain⟨p0,p1,p2⟩:=y.c3;have HP:=za (U.below a);have D:=za y;have t:=za (t.o.below a);have s:=za (zg a s.o);have j:=za (zg a j.o);have HB:=za (zc HB.o a);clear U hb a y bz HX;go_wp2_with fail;generalize w3.alloc (.cells #[.bool b3,.slice A3 n3 c3,.slice E3 k3 f3] 52)=W5 at*;generalize w3.heap.size=q6 at*;have C:=za (p9 (l*x) b3 A3 n3 c3 E3 k3 f3 W5 (HT.o _ HB.o) HP.o (HZ.o.fit HP.o zb));by_cases hd:(l*x).den=1
   ·have e1:l1=l:=by rw [I.o,hd];exact Rat.mul_one l
    have C:=C.o;rw [decide_eq_true hd] at C;refine C.mono ?_;rintro e w4 ⟨rfl,hb⟩;have t:=za (t.o.below hb);have s:=za (zg hb s.o);have j:=za (zg hb j.o);have HB:=za (zc HB.o hb);clear hb HP D p0 p1 p2 C hd;go_wp2;go_roundg (n - k)
    case measure=>omega
    case rel=>exact⟨k+1,b,B,m,d,E,u,v,zb,zb,by go_num,s.o,by rw [P.o,e1];exact t.o,j.o,HB.o⟩
   ·have e1:l1=l*(((l*x).den:Nat):Rat):=I.o;have Z:=za (mi hd);have aa:=za (mq hd);have C:=C.o;rw [decide_eq_false hd] at C;refine C.mono ?_;rintro e w4 ⟨rfl,hb⟩;have t:=za (t.o.below hb);have s:=za (zg hb s.o);have j:=za (zg hb j.o);have D:=za (zg hb D.o);have HP:=za (HP.o.below hb);have HB:=za (zc HB.o hb);have ah:zd (zn (K+K0) (((l*x).num:Int):Rat)):=pi HZ.o;have ag:zd (zn (K+K0) (((l*x).den:Nat):Rat)):=ph (L:=0) HZ.o;clear hb p0 p1 p2 C hd;go_upto_region 7 with fail;have GG:=zj w4 (λw' h=>(zk (zg h D.o).c3.1 (zk (zg h D.o).c3.2.1 (zk (zg h D.o).c3.2.2 zQ))));refine kH (λhHeld=>?_);refine tl 0 GG.o ?_;refine tl 3 GG.o ?_;refine jC w4 s4 [.old 23 (.agg #[.bool b3,.slice A3 n3 c3,.slice E3 k3 f3]),.val 24 (FI (l*x).num),.val 25 (FQ (((l*x).num:Int):Rat)),.old 26 (.agg #[.bool b3,.slice A3 n3 c3,.slice E3 k3 f3]),.val 27 (oX (((l*x).den:Nat):Rat) true),.val 22 (oX (((l*x).den:Nat):Rat) true),.val 28 (FQ (((l*x).den:Nat):Rat)),.val 29 (FV (.bool true)),.box 7 52 #[.bool false,.slice none 0 0,.slice none 0 0] 9 6,.sto 8 6,.val 8 (FV (.bool true))] hHeld (vV (vl (vl (vV (vl (jE 4 (oI 5 oX.l (oI 5 oX.r (oG (oH (jE 7 jF)))))) ?_)) ?_) ?_)) ?_
    ·intro A w5 hb hk KK Q k;obtain⟨_,r1,b5,A5,n5,c5,E5,k5,f5,rfl,h1⟩:=sM (hk 2 rfl) rfl;have r2:A.tmps.getD 26 undef=.agg #[.bool b3,.slice A3 n3 c3,.slice E3 k3 f3]:=hk 3 rfl;have h2:=HP.o.below hb;go_simp;(with_reducible refine(uJ (((l*x).num:Int):Rat) (l*x) b5 A5 n5 c5 E5 k5 f5 b3 A3 n3 c3 E3 k3 f3 _ (HT.o _ (zc HB.o hb)) h1 h2 (ah.o.fit h1 zb) (HZ.o.fit h2 zb) aa.o).mono ?_);rintro e w6 ⟨b6,A6,n6,c6,E6,k6,f6,rfl,h6,hb⟩;rw [Z.o] at h6;exact k _ _ hb ⟨b6,A6,n6,c6,E6,k6,f6,rfl,h6⟩
    ·intro A w5 hb hk KK Q k;obtain⟨_,r1,b5,A5,n5,c5,rfl,h1⟩:=sM (hk 1 rfl) rfl;go_simp;(with_reducible refine(R4 (l*x).num b5 A5 n5 c5 _ (HT.o _ (zc HB.o hb)) h1 (yw (K:=K+K0) (za HZ.o.num) h1 zb)).mono ?_);rintro e w6 ⟨b6,A6,n6,c6,E6,k6,f6,rfl,h6,hb⟩;exact k _ _ hb ⟨b6,A6,n6,c6,E6,k6,f6,rfl,h6⟩
    ·intro A w5 hb hk KK Q k;have r1:A.tmps.getD 23 undef=.agg #[.bool b3,.slice A3 n3 c3,.slice E3 k3 f3]:=hk 0 rfl;have h2:=HP.o.below hb;go_simp;(with_reducible refine(UR (l*x) b3 A3 n3 c3 E3 k3 f3 _ (HT.o _ (zc HB.o hb)) h2 (HZ.o.fit h2 zb)).mono ?_);rintro e w6 ⟨b6,A6,n6,c6,rfl,h6,hb⟩;exact k _ _ hb ⟨b6,A6,n6,c6,rfl,h6⟩
    rintro vs ad w8 hb ⟨-,-,-,-,-,-,⟨b6,A6,n6,c6,E6,k6,f6,e6,h6⟩,-,⟨l7,k7⟩,-⟩ -;rw [e6] at k7;simp only [tI,tH,List.foldl,yl];generalize ad 8=q7 at*;have t:=za (t.o.below hb);have s:=za (zg hb s.o);have j:=za (zg hb j.o);have HB:=za (zc HB.o hb);have HR:=za h6;have O:zd (zh w8 q7 52 #[.bool b6,.slice A6 n6 c6,.slice E6 k6 f6]):=k7;clear hb e6 h6 k7 l7 GG hHeld HP D;obtain⟨p0,p1,p2⟩:=O.o.c3;obtain⟨g0,g1,g2⟩:=s.o.c3;go_wp2_with fail;(with_reducible refine(vP (HT.o _ HB.o) t.o HR.o H.o ag.o).mono ?_);rintro e w9 ⟨b8,A8,n8,c8,E8,k8,f8,rfl,M,hb⟩;clear p0 p1 p2 g0 g1 g2;rw [<-e1] at M;have z:=zg hb s.o;have o:=zg hb j.o;have hB:=zc HB.o hb;obtain⟨an,aq,ao,ar,ap,au⟩:=zY z (.bool b8) (.slice A8 n8 c8);have af:=za (jS M z (zV.s3 _ _ _ _ _ _ _) (wB _ _ (.bool b8) (.slice A8 n8 c8) (.slice E8 k8 f8)));have Y:=za (z6 z (.bool b8) (.slice A8 n8 c8) (.slice E8 k8 f8));have N:=za (zh.far3 o (show w.heap.size≠g3 by omega) (.bool b8) (.slice A8 n8 c8) (.slice E8 k8 f8));have X:=za (wF (.bool b8) (.slice A8 n8 c8) (.slice E8 k8 f8) (show w.heap.size<=g3 by omega) hB);clear hb M z o hB HB j s O t HR;go_wp2;go_roundg (n - k)
    case measure=>omega
    case rel=>exact⟨k+1,b8,A8,n8,c8,E8,k8,f8,zb,zb,by go_num,Y.o,by rw [P.o];exact af.o,N.o,X.o⟩
  ·have hk:k=n:=zb;subst hk;have am:decide ((k:Int)<(k:Int))=false:=zA;rw [ac.o] at G;obtain⟨g0,g1,g2⟩:=z.c3;obtain⟨an,aq,ao,ar,ap,au⟩:=zY o (.bool b) (.slice B m d);obtain⟨r0,r1,r2⟩:=(z6 o (.bool b) (.slice B m d) (.slice E u v)).c3;have HG:=za (wR G o hB (qX _));clear G z o hB;go_wp2;refine bodyPost_ret (v:=.agg #[.bool b,.slice B m d,.slice E u v]) (by simp [results,results86,go_sem,r0,r1,r2]) rfl ?_;exact HG.o
section
variable {w:World}{g:Nat}{st:v8}{rd:Rat}{A:ze}{n cA:Nat}{B:ze}{k cB:Nat}{x0 x1 x2 y0 y1 y2:Value}
theorem xl.cells (h:xl w g st rd A n cA B k cB x0 x1 x2 y0 y1 y2):w.cell? ⟨g,0,none⟩=some (.slice A n cA)/\w.cell? ⟨g,1,none⟩=some (.slice B k cB)/\w.cell? ⟨g,2,none⟩=some x0/\w.cell? ⟨g,3,none⟩=some x1/\w.cell? ⟨g,4,none⟩=some x2/\w.cell? ⟨g,5,none⟩=some y0/\w.cell? ⟨g,6,none⟩=some y1/\w.cell? ⟨g,7,none⟩=some y2:=
 ⟨h.blk.cell 0,h.blk.cell 1,h.blk.cell 2,h.blk.cell 3,h.blk.cell 4,h.blk.cell 5,h.blk.cell 6,h.blk.cell 7⟩
end
section
variable {w w':World}{g:Nat}{st:v8}{rd:Rat}{A:ze}{n cA:Nat}{B:ze}{k cB:Nat}{x0 x1 x2 y0 y1 y2:Value}
theorem xl.cap (h:xl w g st rd A n cA B k cB x0 x1 x2 y0 y1 y2):n<=cA/\cA<=9223372036854775807/\yx (VZ g) w A n st.S/\k<=cB/\cB<=9223372036854775807/\(∀ad,A=some ad->g<=ad.block):=by
 obtain⟨vs,hr⟩:=h.rows;obtain⟨A',c',hA,h1,h2,h3,h4⟩:=hr.shape h.hn;injection hA with q1 q2 q3;subst q1 q3;obtain⟨B',d',hB,h5,h6,_⟩:=h.lds.shape;injection hB with q1 q2 q3;subst q1 q3;exact⟨h1,h2,h3,by rw [<-h.hk];exact h5,h6,h4⟩
theorem xl.row {q m:Nat}(h:xl w g st rd (some ⟨q,0,none⟩) n cA B k cB x0 x1 x2 y0 y1 y2){i:Nat}(hi:i<n)(hm:(st.S.getD i []).length=m):∃C d,w.cell? ⟨q,i,none⟩=some (.slice C m d)/\VZ g w C m d (st.S.getD i []):=by
 obtain⟨-,-,hL,-⟩:=h.cap;obtain⟨ad,C,d,e,-,h1,h2⟩:=hL.get (tC g) (qZ _ _) hi hm;injection e with e;subst e;rw [xk] at h1;exact⟨C,d,h1,h2⟩
theorem xl.ready {q:Nat}(h:xl w g st rd (some ⟨q,0,none⟩) n cA B k cB x0 x1 x2 y0 y1 y2){i:Nat}(hi:i<n):∃a:Value,w.cell? ⟨q,i,none⟩=some a/\w.frozen? ⟨q,i,none⟩=false:=by
 obtain⟨vs,hr⟩:=h.rows;obtain⟨g',c,e1,_,e3,e4,_,hk,e6,_⟩:=hr.at_ (n:=0) (by rw [h.hn];omega);injection e1 with e1;injection e1 with e1;subst e1;have e0:i<c.size:=zb;exact⟨_,(hk.cell _).trans (QY e0),hk.frozen _⟩
theorem xl.lt (h:xl w g st rd A n cA B k cB x0 x1 x2 y0 y1 y2):g<w.heap.size:=h.blk.lt
end
theorem ZU {ld:List Nat}{i:Nat}(h:i<ld.length):(nL ld).getD i 0=((ld.getD i 0:Nat):Int):=by
 unfold nL;rw [qQ,qQ,qN,qY h];rfl
section
variable {w:World}{A:ze}{n c m K K0:Nat}{MM:List (List Rat)}
end
theorem uB.below {W W':World}{R:sK}(h:uB W A n c R)(hb:Below W.heap.size W W'):uB W' A n c R:=⟨h.fits,h.small,λr hr=>by
 obtain⟨ad,e,h1,h2,h3⟩:=h.row r hr;exact⟨ad,e,qJ h1 hb.size,zv hb h2,h3.below hb⟩⟩
def Wf (w:World)(xs:List Rat)(e:Ending)(w':World):Prop:=∃(v:Value) (vs:List Value),e=.returned v/\y6 zo w' w.heap.size 52 v xs vs/\Below w.heap.size w w'
theorem Th {L:List (Int×Int)}(hT:zt w)(h:vn w A n c L):
  Calls prog 24 #[.slice A n c] w (Wf w (wQ L)):=by
 obtain⟨ai,ah,S,T,U⟩:=info_parts lL;have hn0:n<=1048576:=qH h.fits h.small;have HL:=za h.len;have HG:zd (∀k,k<n->wO (L.getD k (0,0)).1/\wO (L.getD k (0,0)).2/\∃ad,A=some ad/\ad.block<w.heap.size/\w.cell? (ad.add (k*2))=some (.int .i64 (L.getD k (0,0)).1)/\w.cell? (ad.add (k*2+1))=some (.int .i64 (L.getD k (0,0)).2)):=λk hk=>by
  have hl:=h.len;have e:L[k]?=some (L.getD k (0,0)):=by rw [qQ,qY zb];rfl
  obtain⟨h1,h2⟩:=h.ints _ (QJ e);exact⟨h1,h2,h.row k _ e⟩
 have HS:zd (∀k,k<n->wQ (L.take (k+1))=wQ (L.take k)++[so (L.getD k (0,0)).1 (L.getD k (0,0)).2]):=λk hk=>by
  have hl:=h.len;unfold wQ;rw [QZ zb,YY,qQ,qY zb];rfl
 have HT:=zj w (λw' hb=>hT.on hb);unfold Wf;clear h hT;have hB:=qZ w.heap.size w;go_enter func24,ntmps24;go_wp2_with fail
 go_loopg [3,4] (n+1) (λg sl ix wr=>∃(k:Nat) (v:Value) (vs:List Value),k<=n/\n<g+k/\ix=.int .i64 k/\v=sl/\y6 zo wr w.heap.size 52 v (wQ (L.take k)) vs/\Below w.heap.size w wr)
 case atStart=>exact⟨0,_,_,qW _,zb,rfl,rfl,y6.nil _ _ _,hB⟩
 case round=>
  clear hB;obtain⟨k,v,vs,hkn,hg,rfl,rfl,a,hB⟩:=hrel;by_cases hlt:k<n
  ·obtain⟨i,m,ad,rfl,hadb,o,s⟩:=HG.o k hlt;have G:=za (HS.o k hlt);obtain⟨q,hq⟩:∃q,L.getD k (0,0)=q:=⟨_,rfl⟩;rw [hq] at i m o s G;obtain⟨q1,q2⟩:=q;dsimp only at i m o s G;have o:=zv hB o;have s:=fA (zv hB s);have ag:decide ((k:Int)<(n:Int))=true:=decide_eq_true zb;have i1:(0:Int)<=(k:Int):=zb;have i2:(k:Int)<(n:Int):=zb;have N:=za a;have I:=za hB;have Y:=za i;have Z:=za m;have Q:(wQ (L.take k)).length=k:=by rw [jT,qA,HL.o];omega
   have K:=za Q;clear a hB i m hq Q;go_wp2_with fail;(with_reducible refine(Wq (HT.o _ I.o) Y.o Z.o).mono ?_);rintro e w5 ⟨b5,B5,m5,d5,E5,u5,f5,rfl,R,hb⟩;obtain⟨t1,t2,_⟩:=zu w5 52 #[.bool b5,.slice B5 m5 d5,.slice E5 u5 f5];obtain⟨aj,ak,al⟩:=t2.c3;have H:=zc hb t1;have a:=y6.below zZ N.o H;have HX:=za (R.below t1);have HB:=za (zc I.o H);have t:∀j u,[Value.bool b5,.slice B5 m5 d5,.slice E5 u5 f5][j]?=some u->(w5.alloc (.cells #[.bool b5,.slice B5 m5 d5,.slice E5 u5 f5] 52)).cell? ((⟨w5.heap.size,0,none⟩:Addr).add j)=some u:=λj u hu=>by
    rw [xk]
    match j,hu with
    |0,hu=>simp at hu;subst hu;exact t2.cell 0
    |1,hu=>simp at hu;subst hu;exact t2.cell 1
    |2,hu=>simp at hu;subst hu;exact t2.cell 2
   have F:=za t;have O:zd (∀u ∈ [Value.bool b5,.slice B5 m5 d5,.slice E5 u5 f5],u.oneCell'=true):=by intro u hu;simp at hu;rcases hu with rfl|rfl|rfl<;>rfl
   have aa:zd (∀u ∈ [Value.bool b5,.slice B5 m5 d5,.slice E5 u5 f5],vR u):=by intro u hu y z;simp at hu;rcases hu with rfl|rfl|rfl<;>(intro h9;cases h9)
   have ae:zd (∀u ∈(Value.agg #[.bool false,.slice none 0 0,.slice none 0 0]).cells.toList,vR u):=by intro u hu y z;simp [Value.cells] at hu;rcases hu with rfl|rfl<;>(intro h9;cases h9)
   have J:zd (w.heap.size<=(w5.alloc (.cells #[.bool b5,.slice B5 m5 d5,.slice E5 u5 f5] 52)).heap.size):=HB.o.size;have C:=a.own;rw [K.o] at C;have P:=za C;have M:=za a.nou;have ac:=za a;have ab:=za (λr (h:v.ownBlock=some r)=>a.own.lt r h);clear hb H R t a t1 t2 o s aj ak al C;go_wp2_with (at_builtin;go_loud (refine bG _ rfl (.tmp 11) (.tmp 17) 41 rfl w.heap.size 52 ai (.agg #[.bool false,.slice none 0 0,.slice none 0 0]) 3 56 underlying41 ah S T U rfl zf v k vs rfl P.o ⟨w5.heap.size,0,none⟩ 1 1 [.bool b5,.slice B5 m5 d5,.slice E5 u5 f5] rfl rfl F.o O.o (by unfold maxLen;omega) zb J.o M.o ae.o aa.o ?_;intro v' w8 D d af B;have E:=za (y6.grow (n:=k+1) zZ ac.o HX.o D (by rw [K.o]) d B);have X:=za (HB.o.grown d J.o (λr hr=>(ab.o r hr).1));clear D d af B));rw [<-G.o] at E;go_roundg (n - k)
   case measure=>omega
   case rel=>exact⟨k+1,_,_,zb,zb,by go_num,rfl,E.o,X.o⟩
  ·have ag:decide ((k:Int)<(n:Int))=false:=decide_eq_false zb;have hk:k=n:=zb;subst hk;rw [qV (by rw [HL.o];exact qX _)] at a;have HV:=za a;have V:=za hB;clear a hB;go_wp2;go_ret;exact⟨_,_,rfl,HV.o,V.o⟩
