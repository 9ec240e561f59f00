/- What this claim leans on. -/
import Derived.Test.YtipmllfnpldbdaaGreatDoorYE9Api
set_option linter.unusedVariables false
set_option linter.unusedSimpArgs false
namespace Go.Proofs.YtipmllfnpldbdaaGreatDoor
open Go Go.RowKit Go.Proofs.Tryz
set_option maxHeartbeats 16000000
set_option maxRecDepth 100000
set_option maxHeartbeats 4000000
variable {m:Nat}{w:World}
def rO (p:PR)(left:Int)(cols:Nat):List Rat:=
 if p.kd=1 then(p.co++List.replicate (cols - p.co.length) 0).set left.toNat 1 else if p.kd=2 then(p.co++List.replicate (cols - p.co.length) 0).set left.toNat (-1) else p.co++List.replicate (cols - p.co.length) 0
theorem sC {p:PR}{C:zf}{n c cols:Nat}{left:Int}{v2 v3 v4:Value}(hT:zv w)(h:zF w C n c p.co)(hn:n<=cols)(hl:p.kd=1\/p.kd=2->∃l:Nat,left=l/\l<cols)(hc:cols<=1000:=by omega):
  Calls prog 47 #[.agg #[.slice C n c,.int .i64 p.kd,v2,v3,v4],.int .i64 left,.int .i64 (cols:Int)] w (mg w cols (rO p left cols)):=by
 have K:=h.len;obtain⟨H,B,bz⟩:=zG w 83 #[.slice C n c,.int .i64 p.kd,v2,v3,v4];obtain⟨Z,j⟩:=oG cols za;have M:=λW=>(j W).1;have d:=λW=>zd (j W).2;clear j;have y:=zd (d (w.alloc (.cells #[.slice C n c,.int .i64 p.kd,v2,v3,v4] 83))).o;have v:Below w.heap.size w ((w.alloc (.cells #[.slice C n c,.int .i64 p.kd,v2,v3,v4] 83)).alloc (.cells Z 60)):=H.alloc zD _;have A:=B.alloc (.cells Z 60);obtain⟨g0,g1,g2,g3,g4⟩:=B.c5;obtain⟨q0,q1,q2,q3,q4⟩:=A.c5;have e1:(w.alloc (.cells #[.slice C n c,.int .i64 p.kd,v2,v3,v4] 83)).heap.size=w.heap.size+1:=zD;rw [e1] at y;have I:=h.keep v;obtain⟨r9,w9,E,G,D⟩:=VV y.o I hn 32 32 3 underlying32;rw [List.drop_replicate] at G;have HB:=zd (D w w.heap.size za v);have J:=A.below (D _ (w.heap.size+1) (qX _) (qY _ _)) (Nat.lt_succ_self _);obtain⟨q0,q1,q2,q3,q4⟩:=J.c5;have HV:=zd G;have HT:=zd (λW (hb:Below w.heap.size w W)=>hT.on hb);have hL:zg (rO p left cols=if p.kd=1 then(p.co++List.replicate (cols - n) 0).set left.toNat 1 else if p.kd=2 then(p.co++List.replicate (cols - n) 0).set left.toNat (-1) else p.co++List.replicate (cols - n) 0):=by
  show _=_;unfold rO;rw [K]
 clear h H B bz hT e1 K A I G D y J;generalize rO p left cols=L at*;generalize p.co++List.replicate (cols - n) 0=F at*;generalize p.kd=kd at*;clear p;obtain⟨gv,N⟩:∃g,w.heap.size+1=g:=⟨_,rfl⟩;have u:w.heap.size<=gv:=za;rw [N] at E HV;by_cases k1:kd=1
 ·have t1:(kd==1)=true:=by simp [k1]
  obtain⟨l,rfl,i⟩:=hl (Or.inl k1);rw [if_pos k1,Int.toNat_natCast] at hL;have i1:(0:Int)<=(l:Int):=za;have i2:(l:Int)<(cols:Int):=za;clear hl k1;go_enter func47,ntmps47;go_wp2_with fail;clear g0 g1 g2 g3 g4 M d v E;(with_reducible refine(mQ 1 _ (HT.o _ HB.o) zh zh).mono ?_);rintro e w3 ⟨b3,A3,n3,c3,E3,k3,f3,rfl,t,hb⟩;have a:=HV.o.keep hb;have m:=yF.set_ y6 a i t;obtain⟨u0,u1,u2,O,R,P,S,Q,T⟩:=a.ready i (.bool b3) (.slice A3 n3 c3);have z:=zd m;have x:=zd (pS (l*3) (l*3+1) (l*3+2) (.bool b3) (.slice A3 n3 c3) (.slice E3 k3 f3) u (ze HB.o hb));clear a m hb t HV HB q0 q1 q2 q3 q4;go_wp2;go_ret;refine⟨gv,rfl,u,?_,x.o⟩;rw [hL.o];exact z.o
 ·have t1:(kd==1)=false:=by simp [k1]
  rw [if_neg k1] at hL;by_cases k2:kd=2
  ·have t2:(kd==2)=true:=by simp [k2]
   obtain⟨l,rfl,i⟩:=hl (Or.inr k2);rw [if_pos k2,Int.toNat_natCast] at hL;have i1:(0:Int)<=(l:Int):=za;have i2:(l:Int)<(cols:Int):=za;clear hl k1 k2;go_enter func47,ntmps47;go_wp2_with fail;clear g0 g1 g2 g3 g4 M d v E;(with_reducible refine(mQ (-1) _ (HT.o _ HB.o) zh zh).mono ?_);rintro e w3 ⟨b3,A3,n3,c3,E3,k3,f3,rfl,t,hb⟩;have a:=HV.o.keep hb;have m:=yF.set_ y6 a i t;obtain⟨u0,u1,u2,O,R,P,S,Q,T⟩:=a.ready i (.bool b3) (.slice A3 n3 c3);have z:=zd m;have x:=zd (pS (l*3) (l*3+1) (l*3+2) (.bool b3) (.slice A3 n3 c3) (.slice E3 k3 f3) u (ze HB.o hb));clear a m hb t HV HB q0 q1 q2 q3 q4;go_wp2;go_ret;refine⟨gv,rfl,u,?_,x.o⟩;rw [hL.o];exact z.o
  ·have t2:(kd==2)=false:=by simp [k2]
   rw [if_neg k2] at hL;clear hl k1 k2;go_enter func47,ntmps47;go_wp2;go_ret;refine⟨gv,rfl,u,?_,HB.o⟩;rw [hL.o];exact HV.o
theorem sN (n m:Nat)(f:Nat->Nat->Rat):(vS n m f).length=n:=by simp [vS]
theorem sM {n:Nat}(f:Nat->Nat->Rat){r:Nat}(h:r<n):(vS n m f)[r]?=some ((List.range m).map (f r)):=by
 unfold vS;rw [QB,XP h];rfl
theorem Wn (m:Nat)(f:Nat->Rat):((List.range m).map f).length=m:=zD
theorem Wm (f:Nat->Rat){c:Nat}(h:c<m):((List.range m).map f)[c]?=some (f c):=by
 rw [QB,XP h];rfl
theorem Z4 {g n:Nat}{M:List (List Rat)}(h:y8 (yf zu) w 32 g n M)(hd:wW M n m)(hn:n<=64)(hm:m<=64):xo w (some ⟨g,0,none⟩) n n m M:=⟨hd,qX _,za,hn,hm,h.rows,λad e=>by obtain⟨cs,hk,_⟩:=h.blk;injection e with e;subst e;exact⟨cs,hk⟩⟩
def rS (f:Nat->Nat->Rat)(F:FuncId)(cap:Array Value)(n m:Nat)(w:World):Prop:=
 (∀ (args : Array Value) (w' : World),Sem.run prog (callFunc F args) w' = .ok (.enter F args) w') ∧
   ∀r c,r<n->c<m->∀w',Below w.heap.size w w'->Calls prog F (#[.int .i64 (r:Int),.int .i64 (c:Int)]++cap) w' (ye w' (f r c))
theorem tY {K:Nat}(f:Nat->Nat->Rat)(F:FuncId)(ao:Array Value)(n m:Nat)(w:World)(hT:zv w)(hG:rS f F ao n m w)(hS:∀r c,r<n->c<m->zt K (f r c))(hn:n<=64:=by omega)(hm:m<=64:=by omega)(hK:K+2<=67108864:=by omega):
  Calls prog 83 #[.int .i64 (n:Int),.int .i64 (m:Int),.func (.func F) #[] ao] w (lT w n m (vS n m f)):=by
 obtain⟨hEn,hF⟩:=hG;have HF:=zd hF;have HT:=zn w (λw' hb=>hT.on hb);have S:=zd (sN n m f);have Q:zg (∀r,r<n->(vS n m f)[r]?=some ((List.range m).map (f r))):=λr hr=>sM f hr;have af:zg (∀r c,c<m->((List.range m).map (f r))[c]?=some (f r c)):=λr c hc=>Wm (f r) hc;have aj:zg (∀r,((List.range m).map (f r)).length=m):=λr=>Wn m (f r);have an:zg (∀r,r<n->zI K ((List.range m).map (f r))):=λr hr x hx=>by
  obtain⟨c,hc,rfl⟩:=List.mem_map.1 hx;exact hS r c hr (List.mem_range.1 hc)
 have ae:=zd (Uo n m f);obtain⟨H,O⟩:∃H:Nat->List Rat,(λr=>(List.range m).map (f r))=H:=⟨_,rfl⟩;have G:∀r,(List.range m).map (f r)=H r:=λr=>by rw [<-O]
 simp only [G] at Q af aj an;obtain⟨M,hM⟩:∃M,vS n m f=M:=⟨_,rfl⟩;rw [hM] at S Q ae⊢;obtain⟨Z,hZ⟩:=oG m za;have HMK:∀W,(Instr.makeSlice 32 (.int .i64 (m:Int)) (.int .i64 (m:Int))).run prog W=.ok (.slice (some ⟨W.heap.size,0,none⟩) m m) (W.alloc (.cells Z 60)):=λW=>(hZ W).1;have al:=zd (λW=>(hZ W).2);obtain⟨Y,hY⟩:=Uh n za;have ak:∀W,(Instr.makeSlice 28 (.int .i64 (n:Int)) (.int .i64 (n:Int))).run prog W=.ok (.slice (some ⟨W.heap.size,0,none⟩) n n) (W.alloc (.cells Y 32)):=λW=>(hY W).1;have C:=zd (λW=>(hY W).2);obtain⟨b1,b2,b3,b4,b5⟩:=yc w 30 32 30 #[.slice none 0 0,.int .i64 0] Y #[.slice (some ⟨w.heap.size+1,0,none⟩) n n,.int .i64 (m:Int)];clear hT hF hS O G hM hZ hY;unfold lT;have i0:(0:Int)<=(n:Int):=za;have i1:(0:Int)<=(m:Int):=za;go_enter func83,ntmps83;go_wp2_with fail;have a:y8 (yf zu) (((w.alloc (.cells #[.slice none 0 0,.int .i64 0] 30)).alloc (.cells Y 32)).alloc (.cells #[.slice (some ⟨w.heap.size+1,0,none⟩) n n,.int .i64 (m:Int)] 30)) 32 (w.heap.size+1) n (wD [] M n 0):=by
  have h1:=C.o (w.alloc (.cells #[.slice none 0 0,.int .i64 0] 30));have e1:(w.alloc (.cells #[.slice none 0 0,.int .i64 0] 30)).heap.size=w.heap.size+1:=zD;rw [e1] at h1;rw [pU];exact h1.below (vK y6) (zG _ _ _).1
 clear b3 C ak;obtain⟨g0,T⟩:∃g,w.heap.size=g:=⟨_,rfl⟩;have a4:w.heap.size<=g0:=za;rw [T] at a b1 b2 b4 b5⊢;generalize ((w.alloc (.cells #[.slice none 0 0,.int .i64 0] 30)).alloc (.cells Y 32)).alloc (.cells #[.slice (some ⟨g0+1,0,none⟩) n n,.int .i64 (m:Int)] 30)=W1 at*;rw [<-T] at b1;clear T
 go_loopg [18] (n+1) (λg ix wr=>∃(k:Nat),k<=n/\n<g+k/\ix=.int .i64 k/\y8 (yf zu) wr 32 (g0+1) n (wD [] M n k)/\Below w.heap.size w wr/\zi wr g0 30 #[.slice none 0 0,.int .i64 0]/\zi wr (g0+1+1) 30 #[.slice (some ⟨g0+1,0,none⟩) n n,.int .i64 (m:Int)])
 case atStart=>exact⟨0,xQ _,za,rfl,a,b1,b2,b4⟩
 case round=>
  clear a b1 b2 b4 b5;obtain⟨k,hkn,hg,rfl,a,hB,A,I⟩:=hrel;obtain⟨wo,a5⟩:∃wo,wo=wr:=⟨_,rfl⟩;subst a5;by_cases hlt:k<n
  ·have a2:decide ((k:Int)<(n:Int))=true:=decide_eq_true za;have i2:(0:Int)<=(k:Int):=za;have i3:(k:Int)<(n:Int):=za;have hg1:=a.lt;have am:=zd a;have HB:=zd hB;have ay:=zd A;have az:=zd I;have L:=zd (af.o k);have y:=zd (aj.o k);have N:=zd (an.o k hlt);have J:=zd (Q.o k hlt);obtain⟨R,hR⟩:∃R,H k=R:=⟨_,rfl⟩;rw [hR] at L y N J;clear a hB A I hR;go_wp2_with fail;have i:=al.o wo;have d:Below wo.heap.size wo (wo.alloc (.cells Z 60)):=(qY _ wo).alloc (qX _) _;rw [<-pU 0 R m] at i;obtain⟨gr,ap⟩:∃g,wo.heap.size=g:=⟨_,rfl⟩;have a6:wo.heap.size<=gr:=za;rw [ap] at i⊢;generalize wo.alloc (.cells Z 60)=W2 at*;clear ap
   go_loopg [25] (m+1) (λg jx wr=>∃(j:Nat),j<=m/\m<g+j/\jx=.int .i64 j/\yk wr gr m (wD 0 R m j)/\Below wo.heap.size wo wr)
   case atStart=>exact⟨0,xQ _,za,rfl,i,d⟩
   case round=>
    clear i d;obtain⟨j,hjm,hg2,rfl,i,d⟩:=hrel;by_cases hjl:j<m
    ·have a3:decide ((j:Int)<(m:Int))=true:=decide_eq_true za;have i4:(0:Int)<=(j:Int):=za;have i5:(j:Int)<(m:Int):=za;have ag:=zd i;have P:=zd d;have ax:=zd (L.o j hjl);clear i d;go_wp2_with fail;refine(HF.o k j hlt hjl _ (ze HB.o P.o)).mono ?_;rintro e w3 ⟨b3,A3,n3,c3,E3,k3,f3,rfl,ar,hb⟩;have U:=ag.o.keep hb;have V:=yF.set_ y6 U hjl ar;rw [pW 0 R m j y.o hjl _ ax.o] at V;obtain⟨q0,q1,q2,ab,ac,a7,a8,sc2,sf2⟩:=U.ready hjl (.bool b3) (.slice A3 n3 c3);have a0:=zd V;have av:=zd (pS (j*3) (j*3+1) (j*3+2) (.bool b3) (.slice A3 n3 c3) (.slice E3 k3 f3) a6 (ze P.o hb));clear U V hb ar ag P;go_wp2;go_roundg (m - j)
     case measure=>omega
     case rel=>exact⟨j+1,za,za,by go_num,a0.o,av.o⟩
    ·have hj:j=m:=za;subst hj;have a3:decide ((j:Int)<(j:Int))=false:=zD;have HV:=zd (wg (pV 0 R j y.o▸i));have au:=zj d az.o;have h:=zd (am.o.below (vK y6) d);have B:=zd (ze HB.o d);have t:=zd (zj d ay.o);have u:=zd au;obtain⟨p0,p1⟩:=au.c2;have z:=(qY wr.heap.size wr).drew;clear i d;go_wp2_with fail;refine rg (zk p0 zQ) (λhHeld=>?_);clear p0 p1;have HV:=zd (HV.o.keep z);have h:=zd (h.o.below (vK y6) z);have B:=zd (ze B.o z);have t:=zd (zj z t.o);have u:=zd (zj z u.o);clear z;generalize wr.drew=D at*;refine tk 0 ?_;refine tk 1 ?_;refine tk 2 ?_;refine tk 3 ?_;refine rc 4 (λKK E=>?_);go_simp;(with_reducible refine(iS (HT.o _ B.o) HV.o N.o).mono ?_);rintro e w5 ⟨g5,rfl,hg5,aq,hb⟩;refine E.out _ _ (Cs.below hHeld hb) (λhHeld=>?_);clear E KK;have X:=h.o.below (vK y6) hb;have aa:=y8.set_ (vK y6) X hlt (wg aq) y.o;rw [pW [] M n k S.o hlt _ J.o] at aa;obtain⟨q0,ab,ac⟩:=X.ready hlt;have hne:g0+1+1≠g0+1:=za;have a1:=zd aa;have aw:=zd (zH (p:=⟨g0+1,k,none⟩) (.slice (some ⟨g5,0,none⟩) j j) (show w.heap.size<=g0+1 by omega) (ze B.o hb));have ah:=zd (zi.far (p:=⟨g0+1,k,none⟩) (zj hb t.o) (by show g0≠g0+1;omega) (.slice (some ⟨g5,0,none⟩) j j));have ai:=zd (zi.far (p:=⟨g0+1,k,none⟩) (zj hb u.o) (by show g0+1+1≠g0+1;omega) (.slice (some ⟨g5,0,none⟩) j j));clear hb X aa aq h B t u HV;refine tk 5 ?_;refine rc 6 (λKK E=>?_);go_simp;refine E.out _ _ ?_ (λhHeld=>?_)
     ·refine Cs.far hHeld ((xe.refl (g0+1) _).set_ k _) ⟨?_,trivial⟩;show g0+1+1≠g0+1;omega
     clear E KK;refine z8 ?_;clear hHeld ab ac;go_wp2;go_roundg (n - k)
     case measure=>omega
     case rel=>exact⟨k+1,za,za,by go_num,a1.o,aw.o,ah.o,ai.o⟩
  ·have hk:k=n:=za;subst hk;have a2:decide ((k:Int)<(k:Int))=false:=zD;have HM:=zd (Z4 (pV [] M k S.o▸a) ae.o hn hm);obtain⟨p0,p1⟩:=I.c2;obtain⟨ab,ac,a7,a8⟩:=oz A (.slice (some ⟨g0+1,0,none⟩) k k);obtain⟨r0,r1⟩:=(ow A (.slice (some ⟨g0+1,0,none⟩) k k) (.int .i64 (m:Int))).c2;have HG:=zd (Zr HM.o (λad e=>by injection e with e;subst e;show g0<g0+1;omega) A hB a4);unfold lT at HG;clear a hB A I;go_wp2;refine bodyPost_ret (v:=.agg #[.slice (some ⟨g0+1,0,none⟩) k k,.int .i64 (m:Int)]) (by simp [results,results83,go_sem,r0,r1]) rfl ?_;exact HG.o
theorem Zt {w':World}{r:Rat}{b:Bool}{A E:zf}{n c k f:Nat}(h:zu w' r b A n c E k f)(hb:Below w.heap.size w w'):ye w r (.returned (.agg #[.bool b,.slice A n c,.slice E k f])) w':=⟨_,_,_,_,_,_,_,rfl,h,hb⟩
section
variable {A:zf}{n c m:Nat}{M:List (List Rat)}{w:World}
theorem o5:∀(args:Array Value) (w':World),Sem.run prog (callFunc 84 args) w'=.ok (.enter 84 args) w':=Go.Proofs.enters_of func84 zm rfl
theorem li {gs i j:Nat}{Q:zf}{q:Nat}(h:wf (yf zu) w Q n M)(hd:wW M n m)(hk:zi w gs 28 #[.slice Q n q])(hi:i<n)(hj:j<m):Calls prog 84 #[.int .i64 (i:Int),.int .i64 (j:Int),.pointer (some ⟨gs,0,none⟩)] w (ye w (vF M i j)):=by
 obtain⟨a,u,bz⟩:=zG w 60 #[.bool false,.slice none 0 0,.slice none 0 0];obtain⟨ad,B,d,rfl,-,hc,hv⟩:=h.get (vK y6) (qY _ w) hi (hd.row hi);obtain⟨ae,b1,B1,m1,d1,E1,u1,v1,rfl,-,h0,h1,h2,hq⟩:=zF.get hv (qY _ w) hj;obtain⟨hc,h0,h1,h2⟩:=sX a hc h0 h1 h2;have g0:=(zj a hk).c1;have i1:(0:Int)<=(i:Int):=za;have i2:(i:Int)<(n:Int):=za;have i3:(0:Int)<=(j:Int):=za;have i4:(j:Int)<(m:Int):=za;obtain⟨g,t,-⟩:=zG w 60 #[.bool b1,.slice B1 m1 d1,.slice E1 u1 v1];obtain⟨r0,r1,r2⟩:=t.c3;have HG:=zd (Zt (hq.below g) g);clear hq a u bz g t h hk hv hd;go_enter func84,ntmps84;go_wp2;refine bodyPost_ret (v:=.agg #[.bool b1,.slice B1 m1 d1,.slice E1 u1 v1]) (by simp [results,results84,go_sem,r0,r1,r2]) rfl ?_;exact HG.o
theorem o0:∀(args:Array Value) (w':World),Sem.run prog (callFunc 80 args) w'=.ok (.enter 80 args) w':=Go.Proofs.enters_of func80 zm rfl
theorem Vo {gc k:Nat}{V:zf}{cv:Nat}{z:Int}(hk:zi w gc 3 #[.int .i64 z]):Calls prog 80 #[.slice V k cv,.pointer (some ⟨gc,0,none⟩)] w (λe w'=>e=.returned (.bool (!decide ((k:Int)=z)))/\Below w.heap.size w w'):=by
 have g0:=hk.c1;obtain⟨b,hb⟩:∃b,(!decide ((k:Int)=z))=b:=⟨_,rfl⟩;have hb2:((k:Int) !=z)=b:=by rw [<-hb];by_cases q:(k:Int)=z<;>simp [q]
 rw [hb];clear hk hb;go_enter func80,ntmps80;go_wp2;go_ret;exact⟨rfl,qY _ _⟩
end
section
variable {P:Program}{ops:Array Oper}{Q:Exit->Act->World->Prop}{S:World->Prop}{fuel:Nat}{l:Array Bool}{a:Act}{w:World}
theorem pD (i j:Nat){o p:Oper}(hk:∀K':Act->World->Prop,Shut (∀(a:Act) (w:World),S w->(S w->wpAnyH P .any ops (NoPanic Q) S fuel (l.setIfInBounds i true) a w)->K' a w)->Oper.wp P o a w K' (NoPanic Q))(hj:∀K':Act->World->Prop,Shut (∀(a:Act) (w:World),S w->(S w->wpAnyH P .any ops (NoPanic Q) S fuel (l.setIfInBounds j true) a w)->K' a w)->Oper.wp P p a w K' (NoPanic Q))(h1:ops[i]?=some o:=by simp only [QQ,qR,qW];rfl)(d:ops[j]?=some p:=by simp only [QQ,qR,qW];rfl)(h2:Region.ready .any ops l=[i,j]:=by kernel_rfl)(h3:Region.wanted o (yielded ops a.tmps)=true:=by rfl)(g:Region.wanted p (yielded ops a.tmps)=true:=by rfl):wpAnyH P .any ops (NoPanic Q) S (fuel+1) l a w:=
 wpAnyH_ready h2 zD (AllReadyH.cons h1 (λK' hK=>by rw [if_pos h3];exact hk K' hK) (AllReadyH.cons d (λK' hK=>by rw [if_pos g];exact hj K' hK) AllReadyH.nil))
theorem Zv (i j k:Nat){o p q:Oper}(hk:∀K':Act->World->Prop,Shut (∀(a:Act) (w:World),S w->(S w->wpAnyH P .any ops (NoPanic Q) S fuel (l.setIfInBounds i true) a w)->K' a w)->Oper.wp P o a w K' (NoPanic Q))(hj:∀K':Act->World->Prop,Shut (∀(a:Act) (w:World),S w->(S w->wpAnyH P .any ops (NoPanic Q) S fuel (l.setIfInBounds j true) a w)->K' a w)->Oper.wp P p a w K' (NoPanic Q))(hq:∀K':Act->World->Prop,Shut (∀(a:Act) (w:World),S w->(S w->wpAnyH P .any ops (NoPanic Q) S fuel (l.setIfInBounds k true) a w)->K' a w)->Oper.wp P q a w K' (NoPanic Q))(h1:ops[i]?=some o:=by simp only [QQ,qR,qW];rfl)(h:ops[j]?=some p:=by simp only [QQ,qR,qW];rfl)(d:ops[k]?=some q:=by simp only [QQ,qR,qW];rfl)(h2:Region.ready .any ops l=[i,j,k]:=by kernel_rfl)(h3:Region.wanted o (yielded ops a.tmps)=true:=by rfl)(m:Region.wanted p (yielded ops a.tmps)=true:=by rfl)(g:Region.wanted q (yielded ops a.tmps)=true:=by rfl):wpAnyH P .any ops (NoPanic Q) S (fuel+1) l a w:=
 wpAnyH_ready h2 zD (AllReadyH.cons h1 (λK' hK=>by rw [if_pos h3];exact hk K' hK) (AllReadyH.cons h (λK' hK=>by rw [if_pos m];exact hj K' hK) (AllReadyH.cons d (λK' hK=>by rw [if_pos g];exact hq K' hK) AllReadyH.nil)))
end
