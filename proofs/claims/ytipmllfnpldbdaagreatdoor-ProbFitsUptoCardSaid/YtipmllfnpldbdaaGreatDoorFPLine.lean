/- What this claim leans on. -/
import Derived.Test.YtipmllfnpldbdaaGreatDoorFUArgs2
set_option linter.unusedVariables false
set_option linter.unusedSimpArgs false
namespace Go.Proofs.YtipmllfnpldbdaaGreatDoor
open Go Go.RowKit Go.Proofs.Tryz
set_option maxHeartbeats 16000000
set_option maxRecDepth 100000
set_option maxHeartbeats 4000000
variable {k n:Nat}{w:World}{A:zf}
def rF (p:PR)(left:Int)(cols:Nat):List Rat:=
 if p.kd=1 then(p.co++List.replicate (cols - p.co.length) 0).set left.toNat 1 else if p.kd=2 then(p.co++List.replicate (cols - p.co.length) 0).set left.toNat (-1) else p.co++List.replicate (cols - p.co.length) 0
theorem sn {p:PR}{C:zf}{n c cols:Nat}{left:Int}{v2 v3 v4:Value}(hT:zu w)(h:zy w C n c p.co)(hn:n<=cols)(hl:p.kd=1\/p.kd=2->∃l:Nat,left=l/\l<cols)(hc:cols<=1000:=by omega):
  Calls prog 47 #[.agg #[.slice C n c,.int .i64 p.kd,v2,v3,v4],.int .i64 left,.int .i64 (cols:Int)] w (nQ w cols (rF p left cols)):=by
 have K:=h.len;obtain⟨H,B,bz⟩:=zF w 83 #[.slice C n c,.int .i64 p.kd,v2,v3,v4];obtain⟨Z,j⟩:=ov cols za;have M:=λW=>(j W).1;have d:=λW=>zd (j W).2;clear j;have y:=zd (d (w.alloc (.cells #[.slice C n c,.int .i64 p.kd,v2,v3,v4] 83))).o;have v:Below w.heap.size w ((w.alloc (.cells #[.slice C n c,.int .i64 p.kd,v2,v3,v4] 83)).alloc (.cells Z 60)):=H.alloc zD _;have A:=B.alloc (.cells Z 60);obtain⟨g0,g1,g2,g3,g4⟩:=B.c5;obtain⟨q0,q1,q2,q3,q4⟩:=A.c5;have e1:(w.alloc (.cells #[.slice C n c,.int .i64 p.kd,v2,v3,v4] 83)).heap.size=w.heap.size+1:=zD;rw [e1] at y;have I:=h.keep v;obtain⟨r9,w9,E,G,D⟩:=Ww y.o I hn 32 32 3 underlying32;rw [List.drop_replicate] at G;have HB:=zd (D w w.heap.size za v);have J:=A.below (D _ (w.heap.size+1) (qX _) (qY _ _)) (Nat.lt_succ_self _);obtain⟨q0,q1,q2,q3,q4⟩:=J.c5;have HV:=zd G;have HT:=zd (λW (hb:Below w.heap.size w W)=>hT.on hb);have hL:zg (rF p left cols=if p.kd=1 then(p.co++List.replicate (cols - n) 0).set left.toNat 1 else if p.kd=2 then(p.co++List.replicate (cols - n) 0).set left.toNat (-1) else p.co++List.replicate (cols - n) 0):=by
  show _=_;unfold rF;rw [K]
 clear h H B bz hT e1 K A I G D y J;generalize rF p left cols=L at*;generalize p.co++List.replicate (cols - n) 0=F at*;generalize p.kd=kd at*;clear p;obtain⟨gv,N⟩:∃g,w.heap.size+1=g:=⟨_,rfl⟩;have u:w.heap.size<=gv:=za;rw [N] at E HV;by_cases k1:kd=1
 ·have t1:(kd==1)=true:=by simp [k1]
  obtain⟨l,rfl,i⟩:=hl (Or.inl k1);rw [if_pos k1,Int.toNat_natCast] at hL;have i1:(0:Int)<=(l:Int):=za;have i2:(l:Int)<(cols:Int):=za;clear hl k1;go_enter func47,ntmps47;go_wp2_with fail;clear g0 g1 g2 g3 g4 M d v E;(with_reducible refine(mE 1 _ (HT.o _ HB.o) zh zh).mono ?_);rintro e w3 ⟨b3,A3,n3,c3,E3,k3,f3,rfl,t,hb⟩;have a:=HV.o.keep hb;have m:=y6.set_ yx a i t;obtain⟨u0,u1,u2,O,R,P,S,Q,T⟩:=a.ready i (.bool b3) (.slice A3 n3 c3);have z:=zd m;have x:=zd (pI (l*3) (l*3+1) (l*3+2) (.bool b3) (.slice A3 n3 c3) (.slice E3 k3 f3) u (ze HB.o hb));clear a m hb t HV HB q0 q1 q2 q3 q4;go_wp2;go_ret;refine⟨gv,rfl,u,?_,x.o⟩;rw [hL.o];exact z.o
 ·have t1:(kd==1)=false:=by simp [k1]
  rw [if_neg k1] at hL;by_cases k2:kd=2
  ·have t2:(kd==2)=true:=by simp [k2]
   obtain⟨l,rfl,i⟩:=hl (Or.inr k2);rw [if_pos k2,Int.toNat_natCast] at hL;have i1:(0:Int)<=(l:Int):=za;have i2:(l:Int)<(cols:Int):=za;clear hl k1 k2;go_enter func47,ntmps47;go_wp2_with fail;clear g0 g1 g2 g3 g4 M d v E;(with_reducible refine(mE (-1) _ (HT.o _ HB.o) zh zh).mono ?_);rintro e w3 ⟨b3,A3,n3,c3,E3,k3,f3,rfl,t,hb⟩;have a:=HV.o.keep hb;have m:=y6.set_ yx a i t;obtain⟨u0,u1,u2,O,R,P,S,Q,T⟩:=a.ready i (.bool b3) (.slice A3 n3 c3);have z:=zd m;have x:=zd (pI (l*3) (l*3+1) (l*3+2) (.bool b3) (.slice A3 n3 c3) (.slice E3 k3 f3) u (ze HB.o hb));clear a m hb t HV HB q0 q1 q2 q3 q4;go_wp2;go_ret;refine⟨gv,rfl,u,?_,x.o⟩;rw [hL.o];exact z.o
  ·have t2:(kd==2)=false:=by simp [k2]
   rw [if_neg k2] at hL;clear hl k1 k2;go_enter func47,ntmps47;go_wp2;go_ret;refine⟨gv,rfl,u,?_,HB.o⟩;rw [hL.o];exact HV.o
def wl (n:Nat)(p:PR):Int:=if p.co.length=n then(if p.kd=1 then 0 else if p.kd=2 then 0 else if p.kd=3 then 0 else 160) else 2
def pt:ByteArray:={data:=#[114,111,119]}
def vf (n:Nat):List PR->Nat->Er
 |[],_=>.no
 |p::ps,k=>if wl n p=0 then vf n ps (k+1) else .spot (wl n p) pt k
theorem eG (n:Nat)(ps:List PR)(k j:Nat)(h:∀i,i<j->wl n (ps.getD i zL)=0)(hj:j<=ps.length):vf n ps k=vf n (ps.drop j) (k+j):=by
 induction j generalizing ps k with
 |zero=>rfl
 |succ j ih=>
   cases ps with
   |nil=>simp at hj
   |cons p ps=>
     have h0:wl n p=0:=h 0 za;rw [vf,if_pos h0,ih ps (k+1) (λi hi=>h (i+1) za) (by simpa using hj),List.drop_succ_cons];congr 1;omega
theorem WI {ps:List PR}{j:Nat}(h:∀i,i<j->wl n (ps.getD i zL)=0)(hj:j<ps.length)(a:wl n (ps.getD j zL)≠0):vf n ps 0=.spot (wl n (ps.getD j zL)) pt j:=by
 rw [eG n ps 0 j h za,xG,xW hj];rw [qQ,qZ hj] at a⊢;have d:wl n ps[j]≠0:=a;rw [vf,if_neg d];rfl
theorem WJ {ps:List PR}(h:∀i,i<ps.length->wl n (ps.getD i zL)=0):vf n ps 0=.no:=by
 rw [eG n ps 0 ps.length h (qX _),List.drop_length];rfl
def rj (P:PB):Er:=if 24<P.cost.length then .bare 2 else if 20<P.rows.length then .bare 2 else vf P.cost.length P.rows 0
def vT (z:Int):Value:=if z=0 then .nilIface else .iface 71 (.int .i64 z)
theorem pp {p:PR}{C:zf}{k c:Nat}{w:World}{v2 v3 v4:Value}(hn:p.co.length=n):
  Calls prog 57 #[.agg #[.slice C n c,.int .i64 p.kd,v2,v3,v4],.int .i64 (k:Int)] w (λe w'=>e=.returned (vT (wl k p))/\Below w.heap.size w w'):=by
 obtain⟨d,g,bz⟩:=zF w 83 #[.slice C n c,.int .i64 p.kd,v2,v3,v4];obtain⟨g0,g1,g2,g3,g4⟩:=g.c5;have HB:=zd d;clear d g bz;obtain⟨kd,a⟩:∃kd,p.kd=kd:=⟨_,rfl⟩;have hE:zg (wl k p=if n=k then(if kd=1 then 0 else if kd=2 then 0 else if kd=3 then 0 else 160) else 2):=by
  show _=_;unfold wl;rw [hn,a]
 rw [a] at g0 g1 g2 g3 g4 HB⊢;clear a hn;generalize wl k p=z at*;by_cases hl:n=k
 ·subst hl;have e0:((n:Int) !=(n:Int))=false:=zD;by_cases k1:kd=1
  ·have t1:(kd==1)=true:=by simp [k1]
   have HZ:zg (vT z=.nilIface):=by show _=_;rw [hE.o];simp [k1,vT]
   clear hE k1;go_enter func57,ntmps57;go_wp2;go_ret;exact⟨by rw [HZ.o];rfl,HB.o⟩
  ·have t1:(kd==1)=false:=by simp [k1]
   by_cases k2:kd=2
   ·have t2:(kd==2)=true:=by simp [k2]
    have HZ:zg (vT z=.nilIface):=by show _=_;rw [hE.o];simp [k2,vT]
    clear hE k1 k2;go_enter func57,ntmps57;go_wp2;go_ret;exact⟨by rw [HZ.o];rfl,HB.o⟩
   ·have t2:(kd==2)=false:=by simp [k2]
    by_cases k3:kd=3
    ·have t3:(kd==3)=true:=by simp [k3]
     have HZ:zg (vT z=.nilIface):=by show _=_;rw [hE.o];simp [k3,vT]
     clear hE k1 k2 k3;go_enter func57,ntmps57;go_wp2;go_ret;exact⟨by rw [HZ.o];rfl,HB.o⟩
    ·have t3:(kd==3)=false:=by simp [k3]
     have HZ:zg (vT z=.iface 71 (.int .i64 160)):=by show _=_;rw [hE.o];simp [k1,k2,k3,vT]
     clear hE k1 k2 k3;go_enter func57,ntmps57;go_wp2;go_ret;exact⟨by rw [HZ.o];rfl,HB.o⟩
 ·have e0:((n:Int) !=(k:Int))=true:=by rw [bne_iff_ne];omega
  have HZ:zg (vT z=.iface 71 (.int .i64 2)):=by show _=_;rw [hE.o];simp [hl,vT]
  clear hE hl;go_enter func57,ntmps57;go_wp2;go_ret;exact⟨by rw [HZ.o];rfl,HB.o⟩
def lP (w:World)(er:Er)(e:Ending)(w':World):Prop:=∃v,e=.returned v/\ma w' er v/\Below w.heap.size w w'
theorem sd {P:PB}{D:zf}{d9:Nat}{q:Nat}(h:sO w D k d9 A n q P):
  Calls prog 19 #[.agg #[.slice D k d9,.slice A n q]] w (lP w (rj P)):=by
 have L:=h.cost.len;have G:=h.rows.len;have hn9:n<=9223372036854775807:=qA h.fits h.most;obtain⟨K,F,bz⟩:=zF w 42 #[.slice D k d9,.slice A n q];obtain⟨g0,g1⟩:=F.c2;have HB:=zd K;have HK:=zd F;have HE:zg (rj P=if 24<k then .bare 2 else if 20<n then .bare 2 else vf k P.rows 0):=by
  show _=_;unfold rj;rw [L,G]
 have HW:=zd (λW (hb:Below w.heap.size w W) (i:Nat) (hi:i<n)=>h.rows.get hb hi);have J:=zd G;have i0:(0:Int)<=(n:Int):=za;clear h K F bz L G;generalize rj P=er at*;generalize P.rows=ps at*;clear P;by_cases hk:24<k
 ·have d1:decide ((k:Int)>24)=true:=decide_eq_true za;have HR:zg (lP w er (.returned (.iface 71 (.int .i64 2))) (w.alloc (.cells #[.slice D k d9,.slice A n q] 42))):=by
   refine⟨_,rfl,?_,HB.o⟩;rw [HE.o,if_pos hk];rfl
  clear HE hk HB HK HW;go_enter func19,ntmps19;go_wp2;go_ret;exact HR.o
 ·have d1:decide ((k:Int)>24)=false:=decide_eq_false za;by_cases hn:20<n
  ·have d2:decide ((n:Int)>20)=true:=decide_eq_true za;have HR:zg (lP w er (.returned (.iface 71 (.int .i64 2))) (w.alloc (.cells #[.slice D k d9,.slice A n q] 42))):=by
    refine⟨_,rfl,?_,HB.o⟩;rw [HE.o,if_neg hk,if_pos hn];rfl
   clear HE hk hn HB HK HW;go_enter func19,ntmps19;go_wp2;go_ret;exact HR.o
  ·have d2:decide ((n:Int)>20)=false:=decide_eq_false za;have I:zg (er=vf k ps 0):=by
    show _=_;rw [HE.o,if_neg hk,if_neg hn]
   clear HE;have hB:=HB.o;clear hn hk HB;go_enter func19,ntmps19;go_wp2_with fail;clear g0 g1
   go_loopg [20] (n+1) (λg ix wr=>∃(j:Nat),j<=n/\n<g+j/\ix=.int .i64 j/\zg (∀i,i<j->wl k (ps.getD i zL)=0)/\Below w.heap.size w wr/\zg (zi wr w.heap.size 42 #[.slice D k d9,.slice A n q]))
   case atStart=>exact⟨0,QE _,za,rfl,λi hi=>absurd hi za,hB,HK⟩
   case round=>
    clear hB HK;obtain⟨j,hjn,hg,rfl,a,hB,HK⟩:=hrel;by_cases hlt:j<n
    ·obtain⟨ad,rfl,-,C,c,b,B,m,e9,E,u,v,c0,c1,c2,c3,c4,h5,-,h7⟩:=HW.o _ hB j hlt;have Q:decide ((j:Int)<(n:Int))=true:=decide_eq_true za;have i1:(0:Int)<=(j:Int):=za;have i2:(j:Int)<(n:Int):=za;obtain⟨z,hz⟩:∃z,wl k (ps.getD j zL)=z:=⟨_,rfl⟩;obtain⟨st,d3,d4⟩:=zF wr 83 #[.slice C (ps.getD j zL).co.length c,.int .i64 (ps.getD j zL).kd,.bool b,.slice B m e9,.slice E u v];obtain⟨p0,p1,p2,p3,p4⟩:=d3.c5;have HJ:=λW=>zd (pp (p:=ps.getD j zL) (C:=C) (k:=k) (c:=c) (w:=W) (v2:=.bool b) (v3:=.slice B m e9) (v4:=.slice E u v) rfl);rw [hz] at HJ;have d:=zd (ze hB st);have x:=zj st HK.o;obtain⟨g0,g1⟩:=x.c2;have y:=zd x;have H:j<ps.length:=by have:=J.o;omega
     by_cases hz1:z=0
     ·have O:zg (∀i,i<j+1->wl k (ps.getD i zL)=0):=λi hi=>by
       by_cases hij:i=j
       ·rw [hij,hz,hz1]
       ·exact a.o i za
      have e1:vT z=.nilIface:=by rw [hz1];rfl
      rw [e1] at HJ;generalize (ps.getD j zL).co.length=n3 at*;generalize (ps.getD j zL).kd=kd at*;have M:=iG;clear a hB h5 h7 st d3 d4 hz hz1 H e1 HK x;go_wp2_with fail;refine(HJ _).o.mono ?_;rintro e w3 ⟨rfl,hb⟩;have t:=zd (ze d.o hb);have N:=zd (zj hb y.o);clear hb d HJ p0 p1 p2 p3 p4 c0 c1 c2 c3 c4 g0 g1 y;go_wp2;go_roundg (n - j)
      case measure=>omega
      case rel=>exact⟨j+1,za,za,by go_num,O,t.o,N⟩
     ·have e1:vT z=.iface 71 (.int .i64 z):=by unfold vT;rw [if_neg hz1]
      rw [e1] at HJ;have HF:zg (er=.spot z pt j):=by
       show _=_;rw [I.o,WI a.o H (by rw [hz];exact hz1),hz]
      generalize (ps.getD j zL).co.length=n3 at*;generalize (ps.getD j zL).kd=kd at*;have M:=λw=>bX 71 (.int .i64 z) w;clear a hB h5 h7 st d3 d4 hz hz1 H e1 HK x;go_wp2_with fail;refine(HJ _).o.mono ?_;rintro e w3 ⟨rfl,hb⟩;have t:=zd (ze d.o hb);clear hb d HJ p0 p1 p2 p3 p4 c0 c1 c2 c3 c4 g0 g1 y;go_wp2_with fail;refine(uY z pt (j:Int) _).mono ?_;rintro e w4 ⟨v4,rfl,he,hb⟩;have HG:zg (lP w er (.returned v4) w4):=⟨_,rfl,by rw [HF.o];exact he,ze t.o hb⟩;clear he hb t M;go_wp2;go_ret;exact HG.o
    ·have Q:decide ((j:Int)<(n:Int))=false:=decide_eq_false za;have HF:zg (lP w er (.returned .nilIface) wr):=by
      have h1:=J.o;have h2:=a.o;refine⟨_,rfl,?_,hB⟩;rw [I.o,WJ (λi hi=>h2 i za)];rfl
     clear a hB;go_wp2;go_ret;exact HF.o
theorem Xo (M:List (List Rat))(v:List Rat):(ui M v).length=M.length:=by simp [ui]
theorem Yz {M:List (List Rat)}{v:List Rat}{i:Nat}(h:i<M.length):(ui M v)[i]?=some (xF (M.getD i []) v):=by
 unfold ui;rw [QM,qQ,qZ h];rfl
section
variable {K K':Nat}{w:World}
theorem tN {q c:Nat}{Q:zf}{Ls:List (List Rat)}{xs:List Rat}(hT:zu w)(h:wf (yh zt) w Q n Ls)(hd:∀L ∈ Ls,L.length=k)(hv:zy w A k c xs)(z:wQ K Ls)(zx:zH K' xs)(hn:n<=64:=by omega)(hk:k<=64:=by omega)(hK:K<=67108864:=by omega)(N:K'<=67108864:=by omega)(hS:1+k*(K+K'+1)<=67108864:=by omega):
  Calls prog 74 #[.slice Q n q,.slice A k c] w (nQ w n (ui Ls xs)):=by
 have hl:=h.len;have HR:=zd h;have HV:=zd hv;have HT:=zm w (λw' hb=>hT.on hb);have HZ:zg (∀i,i<n->zH K (Ls.getD i [])):=λi hi=>z.row za;have HD:zg (∀i,i<n->(Ls.getD i []).length=k):=λi hi=>hd _ (QA (nJ za));have HX:=zd zx;have u:zg ((ui Ls xs).length=n):=by show _=_;rw [Xo];exact hl
 have HG:zg (∀i,i<n->(ui Ls xs)[i]?=some (xF (Ls.getD i []) xs)):=λi hi=>Yz za;have M:=zd hS;obtain⟨ys,G⟩:∃ys,ui Ls xs=ys:=⟨_,rfl⟩;rw [G] at u HG⊢;obtain⟨Z,hZ⟩:=ov n za;have R:=λW=>(hZ W).1;have m:=zd (λW=>(hZ W).2);clear hT h hd hv z zx hl G hZ hS;unfold nQ;have i0:(0:Int)<=(n:Int):=za;go_enter func74,ntmps74;go_wp2_with fail;clear R;have a:=m.o w;have hB:Below w.heap.size w (w.alloc (.cells Z 60)):=(qY _ w).alloc (qX _) _;obtain⟨gp,C⟩:∃g,w.heap.size=g:=⟨_,rfl⟩;have F:w.heap.size<=gp:=za;rw [C] at a⊢;rw [<-pK 0 ys n] at a;generalize w.alloc (.cells Z 60)=W1 at*;clear C m
 go_loopg [13] (n+1) (λg ix wr=>∃(k:Nat),k<=n/\n<g+k/\ix=.int .i64 k/\yk wr gp n (wF 0 ys n k)/\Below w.heap.size w wr)
 case atStart=>exact⟨0,QE _,za,rfl,a,hB⟩
 case round=>
  clear a hB;obtain⟨i,hkn,hg,rfl,a,hB⟩:=hrel;by_cases hlt:i<n
  ·obtain⟨ad,B,d,rfl,-,hc,D⟩:=HR.o.get (vO yx) hB hlt (HD.o i hlt);have O:decide ((i:Int)<(n:Int))=true:=decide_eq_true za;have i1:(0:Int)<=(i:Int):=za;have i2:(i:Int)<(n:Int):=za;have t:=zd a;have y:=zd D;have j:=zd hB;clear D a hB;go_wp2_with fail;(with_reducible refine(bC (HT.o _ j.o) y.o (HV.o.keep j.o) (HZ.o i hlt) HX.o za hK N M.o).mono ?_);rintro e w3 ⟨b3,A3,n3,c3,E3,k3,f3,rfl,E,hb⟩;clear hc;have v:=t.o.keep hb;have x:=y6.set_ yx v hlt E;rw [pM 0 ys n i u.o hlt _ (HG.o i hlt)] at x;obtain⟨q0,q1,q2,sc0,sf0,sc1,sf1,sc2,sf2⟩:=v.ready hlt (.bool b3) (.slice A3 n3 c3);have I:=zd x;have H:=zd (pI (i*3) (i*3+1) (i*3+2) (.bool b3) (.slice A3 n3 c3) (.slice E3 k3 f3) F (ze j.o hb));clear v x hb E t j y;go_wp2;go_roundg (n - i)
   case measure=>omega
   case rel=>exact⟨i+1,za,za,by go_num,I.o,H.o⟩
  ·have P:i=n:=za;subst P;have O:decide ((i:Int)<(i:Int))=false:=zD;have J:=zd (pL 0 ys i u.o▸a);have j:=zd hB;clear a hB;go_wp2;go_ret;exact⟨gp,rfl,F,J.o,j.o⟩
variable {A:zf}{n c m:Nat}{MM:List (List Rat)}
variable {V:zf}{k cv:Nat}{xs:List Rat}
theorem Xv (hT:zu w)(h:xl w A n c m MM)(hv:zy w V m cv xs)(z:wQ K MM)(zx:zH K' xs)(hK:K<=67108864:=by omega)(j:K'<=67108864:=by omega)(hS:1+m*(K+K'+1)<=67108864:=by omega):
  Calls prog 33 #[.agg #[.slice A n c,.int .i64 (m:Int)],.slice V m cv] w (nE w n (ui MM xs)):=by
 have e0:((m:Int) !=(m:Int))=false:=zD;obtain⟨a,d,bz⟩:=zF w 30 #[.slice A n c,.int .i64 (m:Int)];obtain⟨g0,g1⟩:=d.c2;have HD:=zd (tN (q:=c) (hT.on a) (h.keep a).rows h.dims.cols (hv.keep a) z zx h.hn h.hm hK j hS);have HB:=zd a;clear h a d bz hT hv z zx;unfold nE;go_enter func33,ntmps33;go_wp2_with fail;refine HD.o.mono ?_;rintro e w5 ⟨g5,rfl,g,i,hb⟩;have HG:=zd (And.intro (qA HB.o.size g) (And.intro i (ze HB.o hb)));clear g0 g1 g i hb;go_wp2
 go_ret2
 exact⟨g5,rfl,HG.o⟩
end
