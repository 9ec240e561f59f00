/- What this claim leans on. -/
import Derived.Test.YtipmllfnpldbdaaGreatDoorYE9W
set_option linter.unusedVariables false
set_option linter.unusedSimpArgs false
namespace Go.Proofs.YtipmllfnpldbdaaGreatDoor
open Go Go.RowKit Go.Proofs.Tryz
set_option maxHeartbeats 16000000
set_option maxRecDepth 100000
variable {xs:List Rat}{c:Nat}{w:World}{A:zf}
structure mi (w:World)(A:zf)(n:Nat)(zs:List Int):Prop where
 len:zs.length=n
 ints:∀i,i<n-> -9223372036854775808<=zs.getD i 0/\zs.getD i 0<=9223372036854775807
 num:∀i,i<n->∃ad:Addr,A=some ad/\w.cell? (ad.add i)=some (.int .i64 (zs.getD i 0))
def yw (zs:List Int):List Rat:=zs.map λz:Int=>(z:Rat)
theorem p8 {zs:List Int}{n:Nat}(hT:zv w)(ha:mi w A n zs)(hn:n<=1073741824:=by omega):
  Calls prog 43 #[.slice A n c] w (mg w n (yw zs)):=by
 have D:=ha.len;have t:(yw zs).length=n:=by unfold yw;rw [YJ];exact D
 have m:∀i,i<n->(yw zs)[i]?=some ((zs.getD i 0:Int):Rat):=λi hi=>by
  unfold yw;rw [QB,qQ,qZ za];rfl
 have HI:=zd ha.ints;unfold mg;obtain⟨ys,G⟩:∃ys,yw zs=ys:=⟨_,rfl⟩;rw [G] at m t⊢;have HG:=zd m;have y:=zd t;have HA:=zd ha.num;have HT:=zn w (λw' hb=>hT.on hb);obtain⟨Z,hZ⟩:=oG n za;have L:=λW=>(hZ W).1;have h:=zd (λW=>(hZ W).2);clear hT ha D t G m hZ;have i0:(0:Int)<=(n:Int):=za;go_enter func43,ntmps43;go_wp2_with fail;clear L;have a:=h.o w;have hB:Below w.heap.size w (w.alloc (.cells Z 60)):=(qY _ w).alloc (qX _) _;obtain⟨gp,C⟩:∃g,w.heap.size=g:=⟨_,rfl⟩;have F:w.heap.size<=gp:=za;rw [C] at a⊢;rw [<-pU 0 ys n] at a;generalize w.alloc (.cells Z 60)=W1 at*;clear C h
 go_loopg [11] (n+1) (λg ix wr=>∃(k:Nat),k<=n/\n<g+k/\ix=.int .i64 k/\yk wr gp n (wD 0 ys n k)/\Below w.heap.size w wr)
 case atStart=>exact⟨0,xQ _,za,rfl,a,hB⟩
 case round=>
  clear a hB;obtain⟨k,hkn,hg,rfl,a,hB⟩:=hrel;by_cases hlt:k<n
  ·obtain⟨ad,rfl,hc⟩:=HA.o k hlt;have B:=zq hB hc;obtain⟨z1,z2⟩:=HI.o k hlt;have x:=zd (HG.o k hlt);obtain⟨z,hz⟩:∃z,zs.getD k 0=z:=⟨_,rfl⟩;rw [hz] at B z1 z2 x;have K:decide ((k:Int)<(n:Int))=true:=decide_eq_true za;have i1:(0:Int)<=(k:Int):=za;have i2:(k:Int)<(n:Int):=za;have j:=zd a;have d:=zd hB;clear a hB hc hz;go_wp2_with fail;(with_reducible refine(mQ z _ (HT.o _ d.o) z1 z2).mono ?_);rintro e w3 ⟨b3,A3,n3,c3,E3,k3,f3,rfl,E,hb⟩;clear B;have u:=j.o.keep hb;have v:=yF.set_ y6 u hlt E;rw [pW 0 ys n k y.o hlt _ x.o] at v;obtain⟨q0,q1,q2,sc0,sf0,sc1,sf1,sc2,sf2⟩:=u.ready hlt (.bool b3) (.slice A3 n3 c3);have I:=zd v;have H:=zd (pS (k*3) (k*3+1) (k*3+2) (.bool b3) (.slice A3 n3 c3) (.slice E3 k3 f3) F (ze d.o hb));clear u v hb E j d;go_wp2;go_roundg (n - k)
   case measure=>omega
   case rel=>exact⟨k+1,za,za,by go_num,I.o,H.o⟩
  ·have hk:k=n:=za;subst hk;have K:decide ((k:Int)<(k:Int))=false:=zD;have J:=zd (pV 0 ys k y.o▸a);have d:=zd hB;clear a hB;go_wp2;go_ret;exact⟨gp,rfl,F,J.o,d.o⟩
theorem iS {K:Nat}{n:Nat}(hT:zv w)(ha:zF w A n c xs)(hx:zI K xs)(hn:n<=1073741824:=by omega)(hK:K+2<=67108864:=by omega):
  Calls prog 45 #[.slice A n c] w (mg w n xs):=by
 have B:=ha.len;have HG:zg (∀i,i<n->xs[i]?=some (xs.getD i 0)):=λi hi=>by
  rw [qQ,qZ za];rfl
 have H:zg (∀i,i<n->zI K [xs.getD i 0]):=λi hi y hy=>by
  rw [List.mem_singleton.1 hy];exact hx.at_ za
 unfold mg;have x:=zd B;have HA:=zd ha;have HT:=zn w (λw' hb=>hT.on hb);obtain⟨Z,hZ⟩:=oG n za;have N:=λW=>(hZ W).1;have j:=zd (λW=>(hZ W).2);clear hT ha hx B hZ;have i0:(0:Int)<=(n:Int):=za;go_enter func45,ntmps45;go_wp2_with fail;clear N;have a:=j.o w;have hB:Below w.heap.size w (w.alloc (.cells Z 60)):=(qY _ w).alloc (qX _) _;obtain⟨gp,z⟩:∃g,w.heap.size=g:=⟨_,rfl⟩;have C:w.heap.size<=gp:=za;rw [z] at a⊢;rw [<-pU 0 xs n] at a;generalize w.alloc (.cells Z 60)=W1 at*;clear z j
 go_loopg [11] (n+1) (λg ix wr=>∃(k:Nat),k<=n/\n<g+k/\ix=.int .i64 k/\yk wr gp n (wD 0 xs n k)/\Below w.heap.size w wr)
 case atStart=>exact⟨0,xQ _,za,rfl,a,hB⟩
 case round=>
  clear a hB;obtain⟨k,hkn,hg,rfl,a,hB⟩:=hrel;by_cases hlt:k<n
  ·obtain⟨ad,b1,B1,m1,d1,E1,u1,v1,rfl,-,I,J,L,hx⟩:=HA.o.get hB hlt;have M:decide ((k:Int)<(n:Int))=true:=decide_eq_true za;have i1:(0:Int)<=(k:Int):=za;have i2:(k:Int)<(n:Int):=za;obtain⟨s1,t1,t2,t3⟩:=yb wr 60 60 #[.bool b1,.slice B1 m1 d1,.slice E1 u1 v1] #[.bool b1,.slice B1 m1 d1,.slice E1 u1 v1];have D:=(zG wr 60 #[.bool b1,.slice B1 m1 d1,.slice E1 u1 v1]).2.1;obtain⟨p0,p1,p2⟩:=D.c3;have v:=zd (iT t2 (hx.below s1));have m:=zd (a.keep s1);have d:=zd (ze hB s1);clear hx a hB s1 t1 t2 t3 D;go_wp2_with fail;(with_reducible refine(kC (HT.o _ d.o) v.o (H.o k hlt) zh za).mono ?_);rintro e w3 ⟨b3,A3,n3,c3,E3,k3,f3,rfl,h,hb⟩;clear I J L p0 p1 p2;have h:zu w3 (xs.getD k 0) b3 A3 n3 c3 E3 k3 f3:=by
    have e:ui [xs.getD k 0]=xs.getD k 0:=by rw [iv,cP,YC]
    rw [e] at h;exact h
   have t:=m.o.keep hb;have u:=yF.set_ y6 t hlt h;rw [pW 0 xs n k x.o hlt _ (HG.o k hlt)] at u;obtain⟨q0,q1,q2,sc0,sf0,sc1,sf1,sc2,sf2⟩:=t.ready hlt (.bool b3) (.slice A3 n3 c3);have F:=zd u;have E:=zd (pS (k*3) (k*3+1) (k*3+2) (.bool b3) (.slice A3 n3 c3) (.slice E3 k3 f3) C (ze d.o hb));clear t u hb h m d v;go_wp2;go_roundg (n - k)
   case measure=>omega
   case rel=>exact⟨k+1,za,za,by go_num,F.o,E.o⟩
  ·have hk:k=n:=za;subst hk;have M:decide ((k:Int)<(k:Int))=false:=zD;have G:=zd (pV 0 xs k x.o▸a);have d:=zd hB;clear a hB;go_wp2;go_ret;exact⟨gp,rfl,C,G.o,d.o⟩
theorem Vr (n:Nat)(w:World)(hn:n<=64):Calls prog 71 #[.int .i64 (n:Int)] w (nQ w n (List.replicate n 0)):=by
 unfold nQ;obtain⟨ys,d⟩:∃ys,List.replicate n (0:Rat)=ys:=⟨_,rfl⟩;obtain⟨Z,hZ⟩:=oG n za;have hmk:=λW=>(hZ W).1;have a:=zd (hZ w).2;rw [d] at a⊢;have hd:decide ((n:Int)<0)=false:=decide_eq_false za;have hd2:decide (64<(n:Int))=false:=decide_eq_false za;have hd3:decide ((n:Int)>64)=false:=decide_eq_false za;have hB:=zd ((qY _ w).alloc (qX _) (.cells Z 60));clear hZ d;go_enter func71,ntmps71;go_wp2
 go_ret2
 exact⟨_,rfl,qX _,a.o,hB.o⟩
set_option maxHeartbeats 2000000
structure PR where
 co:List Rat
 kd:Int
 rhs:Rat
def vl (xs ys:List Rat):Rat:=if xs.length=ys.length then wR xs ys else 0
def uG (p:PR)(x:List Rat):Rat:=if p.co.length=x.length then wR p.co x - p.rhs else 0
theorem Xi {K K':Nat}{ys:List Rat}{B:zf}{n n' d:Nat}{ok:Bool}(e:decide (xs.length=ys.length)=ok)(hT:zv w)(ha:zF w A n c xs)(hb:zF w B n' d ys)(hx:zI K xs)(hy:zI K' ys)(hn:n<=1073741824:=by omega)(hS:1+n*(K+K'+1)<=67108864:=by omega)(hK:K<=67108864:=by omega)(a:K'<=67108864:=by omega):
  Calls prog 23 #[.slice A n c,.slice B n' d] w (wj w (vl xs ys) ok):=by
 subst e;have h1:=ha.len;have h2:=hb.len;unfold vl;by_cases h:xs.length=ys.length
 ·obtain rfl:n=n':=za;rw [if_pos h,decide_eq_true h];exact aR hT ha hb hx hy hn hK a hS
 ·rw [if_neg h,decide_eq_false h];exact Vq hT za
theorem zi.c5 {g:Nat}{t:TypeId}{x y z u v:Value}(h:zi w g t #[x,y,z,u,v]):w.cell? ⟨g,0,none⟩=some x/\w.cell? ⟨g,1,none⟩=some y/\w.cell? ⟨g,2,none⟩=some z/\w.cell? ⟨g,3,none⟩=some u/\w.cell? ⟨g,4,none⟩=some v:=⟨h.cell 0,h.cell 1,h.cell 2,h.cell 3,h.cell 4⟩
section
variable {K K':Nat}{p:PR}{xs:List Rat}{C X:zf}{n n' c d:Nat}{w:World}{b:Bool}{B E:zf}{m e9 u v:Nat}
theorem Wk {r:Rat}(hT:zv w)(h:zu w r b B m e9 E u v)(z:zt K r)(hK:K+2<=67108864:=by omega):
  Calls prog 46 #[.agg #[.bool b,.slice B m e9,.slice E u v]] w (ye w r):=by
 obtain⟨d,i,j,bz⟩:=yb w 60 60 #[.bool b,.slice B m e9,.slice E u v] #[.bool false,.slice none 0 0,.slice none 0 0];obtain⟨g0,g1,g2⟩:=i.c3;have H:=zd (λW (hb:Below w.heap.size w W) (g:Nat) (hk:zi W g 60 #[.bool b,.slice B m e9,.slice E u v])=>kC (K:=K) (hT.on hb) (iT hk (h.below hb)) (λx hx=>by rw [List.mem_singleton] at hx;exact hx▸z) zh za);have HB:=zd d;have HK:=zd j;have e0:ui [r]=r:=by show(0:Rat)+r=r;rw [YE]
 rw [e0] at H;clear hT h z d i j bz e0;go_enter func46,ntmps46;go_wp2_with fail;have e1:((w.alloc (.cells #[.bool b,.slice B m e9,.slice E u v] 60)).alloc (.cells #[.bool false,.slice none 0 0,.slice none 0 0] 60)).heap.size=w.heap.size+1+1:=zD;generalize (w.alloc (.cells #[.bool b,.slice B m e9,.slice E u v] 60)).alloc (.cells #[.bool false,.slice none 0 0,.slice none 0 0] 60)=W1 at*;rw [<-e1];obtain⟨oU,rt,vY⟩:=zG W1 60 #[.bool b,.slice B m e9,.slice E u v];refine(H.o _ (ze HB.o oU) _ rt).mono ?_;rintro e w2 ⟨b2,A2,n2,c2,E2,k2,f2,rfl,t,hb⟩;have hb:=ze oU hb;have a:=zj hb HK.o;obtain⟨sc0,sf0,sc1,sf1,sc2,sf2⟩:=yj a (.bool b2) (.slice A2 n2 c2);obtain⟨r0,r1,r2⟩:=(yi a (.bool b2) (.slice A2 n2 c2) (.slice E2 k2 f2)).c3;have HG:=zd (xw t a (ze HB.o hb) za);clear hb HB HK a t oU rt vY H g0 g1 g2;go_wp2;refine bodyPost_ret (v:=.agg #[.bool b2,.slice A2 n2 c2,.slice E2 k2 f2]) (by simp [results,results46,go_sem,r0,r1,r2]) rfl ?_;exact HG.o
theorem lS {ok:Bool}(e:decide (p.co.length=xs.length)=ok)(hT:zv w)(h:zF w C n c p.co)(hr:zu w p.rhs b B m e9 E u v)(hx:zF w X n' d xs)(z:zI K p.co)(zr:zt K p.rhs)(zx:zI K' xs)(hn:n<=1073741824:=by omega)(hS:1+n*(K+K'+1)<=67108864:=by omega)(hK:K<=67108864:=by omega)(M:K'<=67108864:=by omega):
  Calls prog 24 #[.agg #[.slice C n c,.int .i64 p.kd,.bool b,.slice B m e9,.slice E u v],.slice X n' d] w (wj w (uG p xs) ok):=by
 obtain⟨G,H,I,bz⟩:=yb w 83 60 #[.slice C n c,.int .i64 p.kd,.bool b,.slice B m e9,.slice E u v] #[.bool false,.slice none 0 0,.slice none 0 0];obtain⟨g0,g1,g2,g3,g4⟩:=H.c5;have HD:=zd (λW (hb:Below w.heap.size w W)=>Xi e (hT.on hb) (h.keep hb) (hx.keep hb) z zx hn hS hK M);have HB:=zd G;have HK:=zd I;have HT:=zd (λW (hb:Below w.heap.size w W)=>hT.on hb);have HR:=zd (λW (hb:Below w.heap.size w W)=>hr.below hb);have t:zg (ok=true->zt (1+n*(K+K'+1)) (vl p.co xs)):=λhy=>by
  subst hy;have hl:=of_decide_eq_true e;unfold vl;rw [if_pos hl];exact fk h.len (by rw [<-hl];exact h.len) z zx
 have i:zg (uG p xs=if ok=true then vl p.co xs - p.rhs else 0):=by
  show _=_;subst e;unfold uG vl;by_cases hl:p.co.length=xs.length
  ·simp [hl]
  ·simp [hl]
 have y:=zd zr;have x:=zd hS;clear hT h hr hx z zr zx e G H I bz hS;generalize vl p.co xs=q at*;go_enter func24,ntmps24;cases ok with
 |true=>
   go_wp2_with fail;generalize (w.alloc (.cells #[.slice C n c,.int .i64 p.kd,.bool b,.slice B m e9,.slice E u v] 83)).alloc (.cells #[.bool false,.slice none 0 0,.slice none 0 0] 60)=W1 at*;refine(HD.o _ HB.o).mono ?_;rintro e w1 ⟨b1,A1,n1,c1,E1,k1,f1,rfl,j,hb⟩;obtain⟨st,d3,d4⟩:=zG w1 60 #[.bool b1,.slice A1 n1 c1,.slice E1 k1 f1];obtain⟨p0,p1,p2⟩:=d3.c3;have q2:=zq st (zq hb g2);have q3:=zq st (zq hb g3);have q4:=zq st (zq hb g4);have g:=ze (ze HB.o hb) st;have F:=zd (ou (K:=1+n*(K+K'+1)) (K':=K) (HT.o _ g) (j.below st) (HR.o _ g) (t.o trivial) y.o x.o za);have D:=zd (zj st (zj hb HK.o));have A:=zd g;have e9:uG p xs=q - p.rhs:=by rw [i.o];rfl
   have E9:=zd e9;have N:w.heap.size<=w.heap.size+1:=za;clear HD HT HR HB HK t i y x j hb st d3 d4 g g0 g1 g2 g3 g4 e9;go_wp2_with fail;refine F.o.mono ?_;rintro e w3 ⟨b2,A2,n2,c2,E2,k2,f2,rfl,L,hb⟩;have J:=ze A.o hb;have a:=zj hb D.o;obtain⟨O,R,P,S,Q,T⟩:=yj a (.bool b2) (.slice A2 n2 c2);obtain⟨r0,r1,r2⟩:=(yi a (.bool b2) (.slice A2 n2 c2) (.slice E2 k2 f2)).c3;have HG:=zd (tB true L a J N);clear hb J a L A D F p0 p1 p2 q2 q3 q4;go_wp2;refine bodyPost_ret (v:=.tuple #[.agg #[.bool b2,.slice A2 n2 c2,.slice E2 k2 f2],.bool true]) (by simp [results,results24,go_sem,r0,r1,r2]) rfl ?_;rw [E9.o];exact HG.o
 |false=>
   go_wp2_with fail;generalize (w.alloc (.cells #[.slice C n c,.int .i64 p.kd,.bool b,.slice B m e9,.slice E u v] 83)).alloc (.cells #[.bool false,.slice none 0 0,.slice none 0 0] 60)=W1 at*;refine(HD.o _ HB.o).mono ?_;rintro e w1 ⟨b1,A1,n1,c1,E1,k1,f1,rfl,j,hb⟩;obtain⟨st,d3,d4⟩:=zG w1 60 #[.bool b1,.slice A1 n1 c1,.slice E1 k1 f1];have g:=ze (ze HB.o hb) st;have a:=zj st (zj hb HK.o);obtain⟨O,R,P,S,Q,T⟩:=yj a (.bool false) (.slice none 0 0);obtain⟨r0,r1,r2⟩:=(yi a (.bool false) (.slice none 0 0) (.slice none 0 0)).c3;have e9:uG p xs=0:=by rw [i.o];rfl
   have E9:=zd e9;have HG:=zd (tB (r:=0) false (mE _) a g (show w.heap.size<=w.heap.size+1 by omega));clear HD HT HR HB HK t i y x j hb st d3 d4 g a g0 g1 g2 g3 g4 e9;go_wp2;refine bodyPost_ret (v:=.tuple #[.agg #[.bool false,.slice none 0 0,.slice none 0 0],.bool false]) (by simp [results,results24,go_sem,r0,r1,r2]) rfl ?_;rw [E9.o];exact HG.o
end
