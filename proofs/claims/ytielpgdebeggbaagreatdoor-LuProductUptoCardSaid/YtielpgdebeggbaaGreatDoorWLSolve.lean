/- What this claim leans on. -/
import Derived.Test.YtielpgdebeggbaaGreatDoorWLFac
import Derived.Test.YtielpgdebeggbaaGreatDoorWLSolv
set_option linter.unusedVariables false
set_option linter.unusedSimpArgs false
namespace Go.Proofs.YtielpgdebeggbaaGreatDoor
open Go Go.RowKit Go.Proofs.Tryz
set_option maxHeartbeats 16000000
set_option maxRecDepth 100000
variable {e:yt}{M S:List (List Rat)}{b:List Rat}{K K' Kr L n:Nat}
def vY (n:Nat)(e:yt)(b:List Rat):List Rat:=(List.range n).map λk=>e.T.getD k 0*b.getD (e.P.getD k 0) 0
theorem aL (n:Nat)(e:yt)(b:List Rat):(vY n e b).length=n:=by unfold vY;simp
theorem WF {k:Nat}(e:yt)(b:List Rat)(h:k<n):(vY n e b)[k]?=some (e.T.getD k 0*b.getD (e.P.getD k 0) 0):=by
 unfold vY;rw [qN,xL h];rfl
theorem aV {Kb:Nat}(a:z5 n n K M e)(hM:zO M n n)(hW:xc K M)(hb:b.length=n)(z:zE Kb b)(c:0<K):zE (K+Kb) (vY n e b):=λx hx=>by
 obtain⟨k,hk,rfl⟩:=List.mem_map.1 hx;have hk:=List.mem_range.1 hk;exact((a.tli hM hW hk).szq c).mul (z.at_ (by rw [hb];exact a.pn hk))
def un (n:Nat)(S:List (List Rat)):List (List Rat):=yp n n λr c=>zl S c r
theorem VT (h:z7 L S)(hd:zO S n n):z7 L (un n S):=λrow a x hx=>by
 obtain⟨r,hr,rfl⟩:=List.mem_map.1 a;obtain⟨c,hc,rfl⟩:=List.mem_map.1 hx;exact h.at_ hd (List.mem_range.1 hc) (List.mem_range.1 hr)
theorem z5.solIn (a:z5 n n K M e)(hM:zO M n n)(hW:xc K M)(hb:b.length=n)(z:zE Kr b)(h1:1+(n+1)*Kr<=K')(h2:K<=K'):wu n K' (67+65*K) (aF M e) e.S (un n e.S) b where
 dS:=a.dims
 dC:=tU _ _ _
 turn:=λi hi k hk=>sC hk hi
 inv:=a.inv
 det:=a.sz.det
 ali:=λi hi j hj=>(a.ali hM hW i hi j hj).up h2
 zS:=a.msz
 zC:=VT a.msz a.dims
 len:=hb
 tli:=(ie (by rw [hb];exact qX n) z).1.up h1
 bli:=λi hi=>((ie (by rw [hb];exact qX n) z).2 _ (QJ (wy (d:=0) zb))).up h1
section
variable {w:World}{g n m ca K Kb K':Nat}{e:yt}{M:List (List Rat)}{b:List Rat}{cA cB cD:Nat}{A B D E:ze}{x0 x1 x2:Value}{qs:List Nat}
theorem V5 (hT:zt w)(h:zw w g n e A n cA B n cB D n cD x0 x1 x2 qs)(i:z5 n n K M e)(hM:zO M n n)(hW:xc K M)(hA:zR w E n ca b)(z:zE Kb b)(hn:n<=64)(h1:1+(n+1)*(K+Kb)<=K')(h2:K<=K')(h3:67+65*K'<=500000)(C:0<K):
  Calls prog 26 #[.pointer (some ⟨g,0,none⟩),.slice E n ca] w (uX w n (wi n e.S (un n e.S) (vY n e b))):=by
 have t:=hA.len;have R:=za (i.solIn hM hW (aL n e b) (aV i hM hW t z C) h1 h2);have ar:=za (aV i hM hW t z C);have aq:zd (∀k,k<n->(vY n e b)[k]?=some (e.T.getD k 0*b.getD (e.P.getD k 0) 0)):=λk hk=>WF e b hk;have Q:=za (aL n e b);have hkb:K+Kb<=K':=by
  have:K+Kb<=(n+1)*(K+Kb):=Nat.le_mul_of_pos_left _ zb;omega
 have ao:zd (∀k,k<n->e.P.getD k 0<n):=λk hk=>i.pn hk;have aw:zd (∀k,k<n->zn K (e.T.getD k 0)):=λk hk=>(i.tli hM hW hk).szq C;have ak:zd (∀k,k<n->zn Kb (b.getD k 0)):=λk hk=>z.at_ (by rw [t];exact hk);have al:=za i.dims;have HT:=zj w (λw' hb=>hT.on hb);have HS:=zj w (λw' hb=>h.below hb);have an:=za h.lt;have aj:zd (∀gB,B=some ⟨gB,0,none⟩->gB<w.heap.size):=λgB e9=>by subst e9;obtain⟨_,cs,h9,_⟩:=h.atB (q:=gB) rfl;exact h9.lt
 have au:=za (fun(hn0:0<n)=>h.somes hn0 hn0 hn0);have HV:=za hA;obtain⟨Z,hZ⟩:=oM n zb;have HMK:∀W,(Instr.makeSlice 41 (.int .i64 (n:Int)) (.int .i64 (n:Int))).run prog W=.ok (.slice (some ⟨W.heap.size,0,none⟩) n n) (W.alloc (.cells Z 52)):=λW=>(hZ W).1;have O:=za (λW=>(hZ W).2);have i0:(0:Int)<=(n:Int):=zb;have d1:((n:Int) !=(n:Int))=false:=zA;generalize vY n e b=RL at*;have U:=za (fB h);clear hT h i hM hW hA z t hZ;go_enter func26,ntmps26;go_wp2_with fail;(with_reducible refine U.o.mono ?_);rintro eo w2 ⟨rfl,F⟩;have d:=O.o w2;have V:Below w2.heap.size w2 (w2.alloc (.cells Z 52)):=(qZ _ w2).alloc (qX _) _;have hB:=zc F V;have q1:(w2.alloc (.cells Z 52)).cell? ⟨g,2,none⟩=some (.slice D n cD):=(HS.o _ hB).blk.cell 2;have G:=F.size;rw [<-tV 0 RL n] at d;clear V F U;go_wp2_with fail;clear q1;generalize w2.alloc (.cells Z 52)=W2 at*;generalize w2.heap.size=g5 at*
 go_loopg [22] (n+1) (λgg ix wr=>∃(k:Nat),k<=n/\n<gg+k/\ix=.int .i64 k/\yh wr g5 n (wX 0 RL n k)/\Below w.heap.size w wr)
 case atStart=>exact⟨0,qW _,zb,rfl,d,hB⟩
 case round=>
  clear d hB;obtain⟨k,hkn,hg,rfl,d,hB⟩:=hrel;by_cases hlt:k<n
  ·have d4:decide ((k:Int)<(n:Int))=true:=decide_eq_true zb;obtain⟨gA,gB,gD,rfl,rfl,rfl⟩:=au.o zb;have hs:=HS.o _ hB;obtain⟨rr,ad⟩:∃x,e.P.getD k 0=x:=⟨_,rfl⟩;have L:=ao.o k hlt;have H:=aq.o k hlt;have q0:=(hs.perm.ready hlt).1;rw [ad] at L H q0;have p1:=hs.blk.cell 1;obtain⟨br,Br,mr,dr,Er,ur,vr,t0,t1,t2,af⟩:=hs.timeGet hlt;obtain⟨ae,bx,Bx,mx,dx,Ex,ux,vx,rfl,hael,s0,s1,s2,hx⟩:=HV.o.get hB L;have i5:(0:Int)<=(k:Int):=zb;have i6:(k:Int)<(n:Int):=zb;have i7:(0:Int)<=(rr:Int):=zb;have i8:(rr:Int)<(n:Int):=zb;have hgl:=an.o;have hbl:=aj.o gB rfl;have aa:g≠g5:=zb;have j:gB≠g5:=zb;have m:ae.block≠g5:=zb;have N:zd (vB g5 [(⟨g,1,none⟩,Value.slice (some ⟨gB,0,none⟩) n cB),(⟨gB,k*3,none⟩,.bool br),(⟨gB,k*3+1,none⟩,.slice Br mr dr),(⟨gB,k*3+2,none⟩,.slice Er ur vr),(ae.add (rr*3),.bool bx),((ae.add (rr*3)).add 1,.slice Bx mx dx),((ae.add (rr*3)).add 2,.slice Ex ux vx)]):=⟨aa,j,j,j,by rw [yk];exact m,by rw [yk,yk];exact m,by rw [yk,yk];exact m,trivial⟩;have av:=za (aw.o k hlt);have ai:=za (ak.o rr L);have s:=za af;have HX:=za hx;have o:=za d;have HB:=za hB;have am:=za H;clear hs af hx d hB H ad;generalize e.T.getD k 0=T at*;generalize b.getD rr 0=X at*;go_wp2_with fail;have c:=(qZ wr.heap.size wr).drew;refine rg (zk p1 (zk t0 (zk t1 (zk t2 (zk s0 (zk s1 (zk s2 zQ))))))) (λhHeld=>?_);have s:=za (s.o.below c);have HX:=za (HX.o.below c);have o:=za (o.o.keep c);have HB:=za (zc HB.o c);clear q0 p1 t0 t1 t2 s0 s1 s2 c;generalize wr.drew=D9 at*;refine tk 0 ?_;refine tk 1 ?_;refine tk 2 ?_;refine tk 3 ?_;refine tk 4 ?_;refine tk 5 ?_;refine tk 6 ?_;refine tk 7 ?_;refine tk 8 ?_;refine tk 9 ?_;refine tk 10 ?_;refine tk 11 ?_;refine tk 12 ?_;refine rc 13 (λKK a=>?_);go_simp;(with_reducible refine(vP (HT.o _ HB.o) s.o HX.o av.o ai.o zb zb).mono ?_);rintro eo w3 ⟨b3,A3,n3,c3,E3,k3,f3,rfl,ag,hb⟩;refine a.out _ _ (Cs.below hHeld hb) (λhHeld=>?_);have I:=o.o.keep hb;have J:=wn.set_ zZ I hlt ag;rw [tX 0 RL n k Q.o hlt _ am.o] at J;obtain⟨o0,o1,o2,az,a2,a0,a3,a1,a4⟩:=I.ready hlt (.bool b3) (.slice A3 n3 c3);have ap:=za J;have ah:=za ((((zc HB.o hb).setCell (p:=⟨g5,k*3,none⟩) G (.bool b3)).setCell (p:=⟨g5,k*3+1,none⟩) G (.slice A3 n3 c3)).setCell (p:=⟨g5,k*3+2,none⟩) G (.slice E3 k3 f3));have u:=(((yb.refl g5 w3).set_ (k*3) (.bool b3)).set_ (k*3+1) (.slice A3 n3 c3)).set_ (k*3+2) (.slice E3 k3 f3);have y:=N.o;clear I J hb ag o a KK;refine tk 14 ?_;refine rc 15 (λKK a=>?_);go_simp;refine a.out _ _ (Cs.far hHeld u y) (λhHeld=>?_);clear a KK az a2 a0 a3 a1 a4 u y;refine zN ?_;clear hHeld s HX HB;go_wp2;go_roundg (n - k)
   case measure=>omega
   case rel=>exact⟨k+1,zb,zb,by go_num,ap.o,ah.o⟩
  ·have ay:n=k:=zb;subst ay;have d4:decide ((n:Int)<(n:Int))=false:=zA;have HR:=za (tW 0 RL n Q.o▸d);have HB:=za hB;have q1:=(HS.o _ hB).blk.cell 0;clear d hB;go_wp2_with fail;have c:=(qZ wr.heap.size wr).drew;refine rg (zk q1 zQ) (λhHeld=>?_);have HR:=za (HR.o.keep c);have HB:=za (zc HB.o c);clear q1 c;generalize wr.drew=D9 at*;refine tk 0 ?_;refine tk 1 ?_;refine tk 2 ?_;refine tk 3 ?_;refine tk 4 ?_;refine tk 5 ?_;refine tk 6 ?_;refine tk 7 ?_;refine tk 9 ?_;refine rc 8 (λKK a=>?_);go_simp;obtain⟨-,-,hL⟩:=(HS.o _ HB.o).lines zb;(with_reducible refine(Wu hL al.o hn).mono ?_);rintro eo w6 ⟨g6,rfl,ax,ab,hb⟩;refine a.out _ _ (Cs.below hHeld hb) (λhHeld=>?_);have HR:=za (HR.o.keep hb);have HB:=za (zc HB.o hb);have HC:=za ab.rows;clear a KK hb ab ax hL;refine rc 10 (λKK a=>?_);go_simp;obtain⟨-,-,hL⟩:=(HS.o _ HB.o).lines zb;(with_reducible refine(Xi (HT.o _ HB.o) hL HC.o (xe HR.o) ar.o R.o hn zb h3 zb zb).mono ?_);rintro eo w7 ⟨g7,rfl,Y,ac,hb⟩;refine a.out _ _ (Cs.below hHeld hb) (λhHeld=>?_);have HF:zd (uX w n (wi n e.S (un n e.S) RL) (.returned (.tuple #[.slice (some ⟨g7,0,none⟩) n n,.bool true])) w7):=⟨g7,rfl,qH HB.o.size Y,ac,zc HB.o hb⟩;clear a KK hb ac Y hL HR HB HC;refine tk 11 ?_;refine tk 12 ?_;refine zN ?_;clear hHeld;go_wp2;refine bodyPost_ret (v:=.tuple #[.slice (some ⟨g7,0,none⟩) n n,.bool true]) (by simp [results,results26,go_sem]) rfl ?_;exact HF.o
end
def tS (n:Nat)(e:yt)(s:List Rat):Nat->List Rat
 |0=>List.replicate n 0
 |k+1=>(tS n e s k).set (e.P.getD k 0) (e.T.getD k 0*s.getD k 0)
theorem ZO (n:Nat)(e:yt)(s:List Rat):∀k,(tS n e s k).length=n
 |0=>yR
 |k+1=>by show(List.set _ _ _).length=n;rw [QX,ZO n e s k]
theorem z5.solInT (a:z5 n n K M e)(hM:zO M n n)(hW:xc K M)(hb:b.length=n)(z:zE Kr b)(h1:1+(n+1)*Kr<=K')(h2:K<=K'):wu n K' (67+65*K) (λi j=>aF M e j i) (un n e.S) e.S b where
 dS:=tU _ _ _
 dC:=a.dims
 turn:=λi hi k hk=>(sC (f:=λr c=>zl e.S c r) hi hk).symm
 inv:=a.inv.turn.congr λi hi j hj=>sC (f:=λr c=>zl e.S c r) hi hj
 det:=by
  have h:=wU.turn a.sz.det;rw [<-h];unfold zD
  split
  ·rfl
  ·exact sC (f:=λr c=>zl e.S c r) zb zb
 ali:=λi hi j hj=>(a.ali hM hW j hj i hi).up h2
 zS:=VT a.msz a.dims
 zC:=a.msz
 len:=hb
 tli:=(ie (by rw [hb];exact qX n) z).1.up h1
 bli:=λi hi=>((ie (by rw [hb];exact qX n) z).2 _ (QJ (wy (d:=0) zb))).up h1
theorem wu.ssz {a:Nat->Nat->Rat}{C:List (List Rat)}(h:wu n K L a S C b)(hn:n<=64)(c:0<K):zE (3*(65+64*K)) (wi n S C b):=by
 have h1:=h.bsz hn (qX n);have h2:=(h.dsz hn).szq zb;have h3:=h.tli.szq c;exact(zE.scale (h2.mul h3).inv h1).up zb
section
variable {w:World}{g n m ca K Kb K':Nat}{e:yt}{M:List (List Rat)}{b:List Rat}{cA cB cD:Nat}{A B D E:ze}{x0 x1 x2:Value}{qs:List Nat}
theorem Ws (hT:zt w)(h:zw w g n e A n cA B n cB D n cD x0 x1 x2 qs)(C:z5 n n K M e)(hM:zO M n n)(hW:xc K M)(hA:zR w E n ca b)(z:zE Kb b)(hn:n<=64)(h1:1+(n+1)*Kb<=K')(h2:K<=K')(h3:67+65*K'<=500000)(bc:0<K)(hKb:Kb<=K'):
  Calls prog 27 #[.pointer (some ⟨g,0,none⟩),.slice E n ca] w (uX w n (tS n e (wi n (un n e.S) e.S b) n)):=by
 have aq:=hA.len;have F:=C.solInT hM hW aq z h1 h2;have ak:=za F;have Q:=za (F.ssz hn zb);have O:zd ((wi n (un n e.S) e.S b).length=n):=aQ;have a4:zd (∀k,k<n->e.P.getD k 0<n):=λk hk=>C.pn hk;have ba:zd (∀k,k<n->zn K (e.T.getD k 0)):=λk hk=>(C.tli hM hW hk).szq bc;have az:=za z;have a1:=za C.dims;have HT:=zj w (λw' hb=>hT.on hb);have HS:=zj w (λw' hb=>h.below hb);have a7:=za (fun(hn0:0<n)=>h.somes hn0 hn0 hn0);have a2:=za h.lt;have ay:zd (∀gB,B=some ⟨gB,0,none⟩->gB<w.heap.size):=λgB e9=>by subst e9;obtain⟨_,cs,h9,_⟩:=h.atB (q:=gB) rfl;exact h9.lt
 have a0:zd (∀gD,D=some ⟨gD,0,none⟩->gD<w.heap.size):=λgB e9=>by subst e9;obtain⟨_,cs,h9,_⟩:=h.atD (q:=gB) rfl;exact h9.lt
 have HV:=zj w (λw' hb=>zR.keep hA hb);have t:zd (∀k,tS n e (wi n (un n e.S) e.S b) (k+1)=(tS n e (wi n (un n e.S) e.S b) k).set (e.P.getD k 0) (e.T.getD k 0*(wi n (un n e.S) e.S b).getD k 0)):=λk=>rfl;obtain⟨Z,hZ⟩:=oM n zb;have HMK:∀W,(Instr.makeSlice 41 (.int .i64 (n:Int)) (.int .i64 (n:Int))).run prog W=.ok (.slice (some ⟨W.heap.size,0,none⟩) n n) (W.alloc (.cells Z 52)):=λW=>(hZ W).1;have aj:=za (λW=>(hZ W).2);have i0:(0:Int)<=(n:Int):=zb;have d1:((n:Int) !=(n:Int))=false:=zA;obtain⟨s,ag⟩:∃s,wi n (un n e.S) e.S b=s:=⟨_,rfl⟩;have a6:=za ag;rw [ag] at Q O t⊢;have ai:tS n e s 0=List.replicate n 0:=rfl;obtain⟨Y,an⟩:∃Y,tS n e s=Y:=⟨_,rfl⟩;rw [an] at t ai⊢;have al:=za (fB h);clear hT h C hM hW hA z aq hZ F ag an;go_enter func27,ntmps27;go_wp2_with fail;(with_reducible refine al.o.mono ?_);rintro eo w2 ⟨rfl,ab⟩;have a:=aj.o w2;rw [<-ai] at a;have j:=za a;have ao:Below w2.heap.size w2 (w2.alloc (.cells Z 52)):=(qZ _ w2).alloc (qX _) _;have HB:=za (zc ab ao);have q1:(w2.alloc (.cells Z 52)).cell? ⟨g,0,none⟩=some (.slice A n cA):=(HS.o _ HB.o).blk.cell 0;have J:=ab.size;clear ao ab al a ai;go_wp2_with fail;generalize w2.alloc (.cells Z 52)=W2 at*;generalize w2.heap.size=g5 at*;have d:=(qZ W2.heap.size W2).drew;refine rg (zk q1 zQ) (λhHeld=>?_);have j:=za (j.o.keep d);have HB:=za (zc HB.o d);clear q1 d;generalize W2.drew=D4 at*;refine tk 0 ?_;refine tk 1 ?_;refine tk 2 ?_;refine tk 3 ?_;refine tk 5 ?_;refine tk 6 ?_;refine tk 7 ?_;refine tk 8 ?_;refine tk 9 ?_;refine tk 12 ?_;refine rc 4 (λKK c=>?_);go_simp;obtain⟨-,-,hL⟩:=(HS.o _ HB.o).lines zb;(with_reducible refine(Wu hL a1.o hn).mono ?_);rintro eo w6 ⟨g6,rfl,bf,ar,hb⟩;refine c.out _ _ (Cs.below hHeld hb) (λhHeld=>?_);have j:=za (j.o.keep hb);have HB:=za (zc HB.o hb);have HC:=za ar.rows;clear c KK hb ar bf hL;refine rc 10 (λKK c=>?_);go_simp;obtain⟨-,-,hL⟩:=(HS.o _ HB.o).lines zb;(with_reducible refine(Xi (HT.o _ HB.o) HC.o hL (HV.o _ HB.o) az.o ak.o hn zb h3 zb zb).mono ?_);rintro eo w7 ⟨g7,rfl,bg,i,hb⟩;have i:yh w7 g7 n (wi n (un n e.S) e.S b):=i;rw [a6.o] at i;refine c.out _ _ (Cs.below hHeld hb) (λhHeld=>?_);have bj:g5≠g7:=by have:=j.o.lt;omega
 have a:=j.o.keep hb;have hB:=zc HB.o hb;clear c KK hb bg hL HC j HB;refine tk 11 ?_;refine zN ?_;clear hHeld;go_wp2_with fail
 go_loopg [29] (n+1) (λgg ix wr=>∃(k:Nat),k<=n/\n<gg+k/\ix=.int .i64 k/\yh wr g5 n (Y k)/\yh wr g7 n s/\Below w.heap.size w wr)
 case atStart=>exact⟨0,qW _,zb,rfl,a,i,hB⟩
 case round=>
  clear a i hB;obtain⟨k,hkn,hg,rfl,a,i,hB⟩:=hrel;by_cases hlt:k<n
  ·have d4:decide ((k:Int)<(n:Int))=true:=decide_eq_true zb;obtain⟨gA,gB,gD,rfl,rfl,rfl⟩:=a7.o zb;have i5:(0:Int)<=(k:Int):=zb;have i6:(k:Int)<(n:Int):=zb;obtain⟨rr,af⟩:∃x,e.P.getD k 0=x:=⟨_,rfl⟩;have ad:=a4.o k hlt;have ah:=t.o k;rw [af] at ad ah;have i7:(0:Int)<=(rr:Int):=zb;have i8:(rr:Int)<(n:Int):=zb;obtain⟨ae,bx,Bx,mx,dx,Ex,ux,vx,e9,-,s0,s1,s2,hx⟩:=(xe i).get (qZ _ _) hlt;injection e9 with e9;subst e9;rw [xk] at s0 s1 s2;obtain⟨u,am,-⟩:=zu wr 52 #[.bool bx,.slice Bx mx dx,.slice Ex ux vx];have hB:=zc hB u;have hs:=HS.o _ hB;have q0:=(hs.perm.ready hlt).1;rw [af] at q0;have p1:=hs.blk.cell 1;have p2:=hs.blk.cell 2;obtain⟨br,Br,mr,dr,Er,ur,vr,t0,t1,t2,av⟩:=hs.timeGet hlt;obtain⟨r0,r1,r2⟩:=am.c3;have bb:zd (zn (3*(65+64*K')) (s.getD k 0)):=Q.o.at_ (by rw [O.o];exact hlt);have a9:=za (ba.o k hlt);have I:=za av;have HX:=za (hx.below u);have G:=za (a.keep u);have H:=za (i.keep u);have HB:=za hB;have a8:=za ah;have bh:=a2.o;have bd:=ay.o gB rfl;have be:=a0.o gD rfl;have bk:=a.lt;have y:g≠g5:=zb;have m:gB≠g5:=zb;have U:gD≠g5:=zb;have o:wr.heap.size≠g5:=zb;have N:zd (vB g5 [(⟨g,2,none⟩,Value.slice (some ⟨gD,0,none⟩) n cD),(⟨gD,k,none⟩,.int .i64 (rr:Int)),(⟨g,1,none⟩,.slice (some ⟨gB,0,none⟩) n cB),(⟨gB,k*3,none⟩,.bool br),(⟨gB,k*3+1,none⟩,.slice Br mr dr),(⟨gB,k*3+2,none⟩,.slice Er ur vr),(⟨wr.heap.size,0,none⟩,.bool bx),(⟨wr.heap.size,1,none⟩,.slice Bx mx dx),(⟨wr.heap.size,2,none⟩,.slice Ex ux vx)]):=⟨y,U,y,m,m,m,o,o,o,trivial⟩;clear hs av hx a i hB af ah u am bh bd be bk y m U o;generalize e.T.getD k 0=T at*;generalize s.getD k 0=X at*;go_wp2_with fail;clear s0 s1 s2;generalize wr.alloc (.cells #[.bool bx,.slice Bx mx dx,.slice Ex ux vx] 52)=W8 at*;generalize wr.heap.size=g8 at*;have d:=(qZ W8.heap.size W8).drew;refine rg (zk p2 (zk q0 (zk p1 (zk t0 (zk t1 (zk t2 (zk r0 (zk r1 (zk r2 zQ))))))))) (λhHeld=>?_);have I:=za (I.o.below d);have HX:=za (HX.o.below d);have G:=za (G.o.keep d);have H:=za (H.o.keep d);have HB:=za (zc HB.o d);clear q0 p1 p2 t0 t1 t2 r0 r1 r2 d;generalize W8.drew=D9 at*;refine tk 0 ?_;refine tk 1 ?_;refine tk 2 ?_;refine tk 3 ?_;refine tk 4 ?_;refine tk 5 ?_;refine tk 6 ?_;refine tk 7 ?_;refine tk 8 ?_;refine tk 9 ?_;refine tk 10 ?_;refine tk 11 ?_;refine tk 12 ?_;refine tk 13 ?_;refine tk 14 ?_;refine tk 15 ?_;refine rc 16 (λKK c=>?_);go_simp;(with_reducible refine(vP (HT.o _ HB.o) I.o HX.o a9.o bb.o zb zb).mono ?_);rintro eo w3 ⟨b3,A3,n3,c3,E3,k3,f3,rfl,aw,hb⟩;refine c.out _ _ (Cs.below hHeld hb) (λhHeld=>?_);have L:=G.o.keep hb;have ac:=wn.set_ zZ L ad aw;rw [<-a8.o] at ac;obtain⟨o0,o1,o2,bl,bo,bm,bp,bn,bq⟩:=L.ready ad (.bool b3) (.slice A3 n3 c3);obtain⟨cs5,ap,V,-⟩:=L.blk;have au:=(((zJ.set_ g5 (rr*3) w3 (.bool b3)).trans (zJ.set_ g5 (rr*3+1) _ (.slice A3 n3 c3))).trans (zJ.set_ g5 (rr*3+2) _ (.slice E3 k3 f3)));have a3:=za ((H.o.keep hb).turn au ap (y3 V) (Ne.symm bj));have a5:=za ac;have ax:=za ((((zc HB.o hb).setCell (p:=⟨g5,rr*3,none⟩) J (.bool b3)).setCell (p:=⟨g5,rr*3+1,none⟩) J (.slice A3 n3 c3)).setCell (p:=⟨g5,rr*3+2,none⟩) J (.slice E3 k3 f3));have R:=(((yb.refl g5 w3).set_ (rr*3) (.bool b3)).set_ (rr*3+1) (.slice A3 n3 c3)).set_ (rr*3+2) (.slice E3 k3 f3);have aa:=N.o;clear L ac hb aw G H c KK ap V au;refine tk 17 ?_;refine rc 18 (λKK c=>?_);go_simp;refine c.out _ _ (Cs.far hHeld R aa) (λhHeld=>?_);clear c KK bl bo bm bp bn bq R aa;refine zN ?_;clear hHeld I HX HB N;go_wp2;go_roundg (n - k)
   case measure=>omega
   case rel=>exact⟨k+1,zb,zb,by go_num,a5.o,a3.o,ax.o⟩
  ·have bi:n=k:=zb;subst bi;have d4:decide ((n:Int)<(n:Int))=false:=zA;have HF:zd (uX w n (Y n) (.returned (.tuple #[.slice (some ⟨g5,0,none⟩) n n,.bool true])) wr):=⟨g5,rfl,J,a,hB⟩;clear a i hB;go_wp2;refine bodyPost_ret (v:=.tuple #[.slice (some ⟨g5,0,none⟩) n n,.bool true]) (by simp [results,results27,go_sem]) rfl ?_;exact HF.o
end
