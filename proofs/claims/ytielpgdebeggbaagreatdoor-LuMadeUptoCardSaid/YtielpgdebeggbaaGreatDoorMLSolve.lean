/- What this claim leans on. -/
import Derived.Test.YtielpgdebeggbaaGreatDoorMLSolv
set_option linter.unusedVariables false
set_option linter.unusedSimpArgs false
namespace Go.Proofs.YtielpgdebeggbaaGreatDoor
open Go Go.RowKit Go.Proofs.Tryz
set_option maxHeartbeats 16000000
set_option maxRecDepth 100000
variable {e:yF}{M S:List (List Rat)}{b:List Rat}{K K' Kr L n:Nat}
def uw (n:Nat)(e:yF)(b:List Rat):List Rat:=(List.range n).map λk=>e.T.getD k 0*b.getD (e.P.getD k 0) 0
theorem ZJ (n:Nat)(e:yF)(b:List Rat):(uw n e b).length=n:=by unfold uw;simp
theorem WV {k:Nat}(e:yF)(b:List Rat)(h:k<n):(uw n e b)[k]?=some (e.T.getD k 0*b.getD (e.P.getD k 0) 0):=by
 unfold uw;rw [qW,xB h];rfl
theorem ZM {Kb:Nat}(a:ym n n K M e)(hM:zM M n n)(hW:yy K M)(hb:b.length=n)(z:zD Kb b)(d:0<K):zD (K+Kb) (uw n e b):=λx hx=>by
 obtain⟨k,hk,rfl⟩:=List.mem_map.1 hx;have hk:=List.mem_range.1 hk;exact((a.tli hM hW hk).szq d).mul (z.at_ (by rw [hb];exact a.pn hk))
def sf (n:Nat)(S:List (List Rat)):List (List Rat):=wg n n λr c=>zl S c r
theorem UO (h:zW L S)(hd:zM S n n):zW L (sf n S):=λrow a x hx=>by
 obtain⟨r,hr,rfl⟩:=List.mem_map.1 a;obtain⟨c,hc,rfl⟩:=List.mem_map.1 hx;exact h.at_ hd (List.mem_range.1 hc) (List.mem_range.1 hr)
theorem ym.solIn (a:ym n n K M e)(hM:zM M n n)(hW:yy K M)(hb:b.length=n)(z:zD Kr b)(h1:1+(n+1)*Kr<=K')(h2:K<=K'):wK n K' (67+65*K) (aF M e) e.S (sf n e.S) b where
 dS:=a.dims
 dC:=iP _ _ _
 turn:=λi hi k hk=>gH hk hi
 inv:=a.inv
 det:=a.sz.det
 ali:=λi hi j hj=>(a.ali hM hW i hi j hj).up h2
 zS:=a.msz
 zC:=UO a.msz a.dims
 len:=hb
 tli:=(iR (by rw [hb];exact qX n) z).1.up h1
 bli:=λi hi=>((iR (by rw [hb];exact qX n) z).2 _ (QX (ws (d:=0) za))).up h1
section
variable {w:World}{g n m ca K Kb K':Nat}{e:yF}{M:List (List Rat)}{b:List Rat}{cA cB cD:Nat}{A B D E:ze}{x0 x1 x2:Value}{qs:List Nat}
theorem UY (hT:zu w)(h:zE w g n e A n cA B n cB D n cD x0 x1 x2 qs)(j:ym n n K M e)(hM:zM M n n)(hW:yy K M)(hA:zR w E n ca b)(z:zD Kb b)(hn:n<=64)(h1:1+(n+1)*(K+Kb)<=K')(h2:K<=K')(h3:67+65*K'<=500000)(F:0<K):
  Calls prog 26 #[.pointer (some ⟨g,0,none⟩),.slice E n ca] w (tj w n (wO n e.S (sf n e.S) (uw n e b))):=by
 have u:=hA.len;have U:=zb (j.solIn hM hW (ZJ n e b) (ZM j hM hW u z F) h1 h2);have au:=zb (ZM j hM hW u z F);have ar:zd (∀k,k<n->(uw n e b)[k]?=some (e.T.getD k 0*b.getD (e.P.getD k 0) 0)):=λk hk=>WV e b hk;have R:=zb (ZJ n e b);have hkb:K+Kb<=K':=by
  have:K+Kb<=(n+1)*(K+Kb):=Nat.le_mul_of_pos_left _ za;omega
 have ap:zd (∀k,k<n->e.P.getD k 0<n):=λk hk=>j.pn hk;have ax:zd (∀k,k<n->zn K (e.T.getD k 0)):=λk hk=>(j.tli hM hW hk).szq F;have al:zd (∀k,k<n->zn Kb (b.getD k 0)):=λk hk=>z.at_ (by rw [u];exact hk);have am:=zb j.dims;have HT:=zk w (λw' hb=>hT.on hb);have HS:=zk w (λw' hb=>h.below hb);have ao:=zb h.lt;have ak:zd (∀gB,B=some ⟨gB,0,none⟩->gB<w.heap.size):=λgB e9=>by subst e9;obtain⟨_,cs,h9,_⟩:=h.atB (q:=gB) rfl;exact h9.lt
 have av:=zb (fun(hn0:0<n)=>h.somes hn0 hn0 hn0);have HV:=zb hA;obtain⟨Z,hZ⟩:=nA n za;have HMK:∀W,(Instr.makeSlice 41 (.int .i64 (n:Int)) (.int .i64 (n:Int))).run prog W=.ok (.slice (some ⟨W.heap.size,0,none⟩) n n) (W.alloc (.cells Z 52)):=λW=>(hZ W).1;have Q:=zb (λW=>(hZ W).2);have i0:(0:Int)<=(n:Int):=za;have d1:((n:Int) !=(n:Int))=false:=zF;generalize uw n e b=RL at*;have V:=zb (eV h);clear hT h j hM hW hA z u hZ;go_enter func26,ntmps26;go_wp2_with fail;(with_reducible refine V.o.mono ?_);rintro eo w2 ⟨rfl,G⟩;have i:=Q.o w2;have Y:Below w2.heap.size w2 (w2.alloc (.cells Z 52)):=(qZ _ w2).alloc (qX _) _;have hB:=zc G Y;have q1:(w2.alloc (.cells Z 52)).cell? ⟨g,2,none⟩=some (.slice D n cD):=(HS.o _ hB).blk.cell 2;have H:=G.size;rw [<-sV 0 RL n] at i;clear Y G V;go_wp2_with fail;clear q1;generalize w2.alloc (.cells Z 52)=W2 at*;generalize w2.heap.size=g5 at*
 go_loopg [22] (n+1) (λgg ix wr=>∃(k:Nat),k<=n/\n<gg+k/\ix=.int .i64 k/\yf wr g5 n (vC 0 RL n k)/\Below w.heap.size w wr)
 case atStart=>exact⟨0,qM _,za,rfl,i,hB⟩
 case round=>
  clear i hB;obtain⟨k,hkn,hg,rfl,i,hB⟩:=hrel;by_cases hlt:k<n
  ·have d4:decide ((k:Int)<(n:Int))=true:=decide_eq_true za;obtain⟨gA,gB,gD,rfl,rfl,rfl⟩:=av.o za;have hs:=HS.o _ hB;obtain⟨rr,af⟩:∃x,e.P.getD k 0=x:=⟨_,rfl⟩;have N:=ap.o k hlt;have I:=ar.o k hlt;have q0:=(hs.perm.ready hlt).1;rw [af] at N I q0;have p1:=hs.blk.cell 1;obtain⟨br,Br,mr,dr,Er,ur,vr,t0,t1,t2,ag⟩:=hs.timeGet hlt;obtain⟨ae,bx,Bx,mx,dx,Ex,ux,vx,rfl,hael,s0,s1,s2,hx⟩:=HV.o.get hB N;have i5:(0:Int)<=(k:Int):=za;have i6:(k:Int)<(n:Int):=za;have i7:(0:Int)<=(rr:Int):=za;have i8:(rr:Int)<(n:Int):=za;have hgl:=ao.o;have hbl:=ak.o gB rfl;have ab:g≠g5:=za;have m:gB≠g5:=za;have o:ae.block≠g5:=za;have O:zd (uk g5 [(⟨g,1,none⟩,Value.slice (some ⟨gB,0,none⟩) n cB),(⟨gB,k*3,none⟩,.bool br),(⟨gB,k*3+1,none⟩,.slice Br mr dr),(⟨gB,k*3+2,none⟩,.slice Er ur vr),(ae.add (rr*3),.bool bx),((ae.add (rr*3)).add 1,.slice Bx mx dx),((ae.add (rr*3)).add 2,.slice Ex ux vx)]):=⟨ab,m,m,m,by rw [y4];exact o,by rw [y4,y4];exact o,by rw [y4,y4];exact o,trivial⟩;have aw:=zb (ax.o k hlt);have aj:=zb (al.o rr N);have t:=zb ag;have HX:=zb hx;have s:=zb i;have HB:=zb hB;have an:=zb I;clear hs ag hx i hB I af;generalize e.T.getD k 0=T at*;generalize b.getD rr 0=X at*;go_wp2_with fail;have d:=(qZ wr.heap.size wr).drew;refine rg (zj p1 (zj t0 (zj t1 (zj t2 (zj s0 (zj s1 (zj s2 zO))))))) (λhHeld=>?_);have t:=zb (t.o.below d);have HX:=zb (HX.o.below d);have s:=zb (s.o.keep d);have HB:=zb (zc HB.o d);clear q0 p1 t0 t1 t2 s0 s1 s2 d;generalize wr.drew=D9 at*;refine tk 0 ?_;refine tk 1 ?_;refine tk 2 ?_;refine tk 3 ?_;refine tk 4 ?_;refine tk 5 ?_;refine tk 6 ?_;refine tk 7 ?_;refine tk 8 ?_;refine tk 9 ?_;refine tk 10 ?_;refine tk 11 ?_;refine tk 12 ?_;refine rc 13 (λKK a=>?_);go_simp;(with_reducible refine(uT (HT.o _ HB.o) t.o HX.o aw.o aj.o za za).mono ?_);rintro eo w3 ⟨b3,A3,n3,c3,E3,k3,f3,rfl,ah,hb⟩;refine a.out _ _ (Cs.below hHeld hb) (λhHeld=>?_);have J:=s.o.keep hb;have L:=wC.set_ z6 J hlt ah;rw [sR 0 RL n k R.o hlt _ an.o] at L;obtain⟨o0,o1,o2,a0,a3,a1,a4,a2,a5⟩:=J.ready hlt (.bool b3) (.slice A3 n3 c3);have aq:=zb L;have ai:=zb ((((zc HB.o hb).setCell (p:=⟨g5,k*3,none⟩) H (.bool b3)).setCell (p:=⟨g5,k*3+1,none⟩) H (.slice A3 n3 c3)).setCell (p:=⟨g5,k*3+2,none⟩) H (.slice E3 k3 f3));have y:=(((zT.refl g5 w3).set_ (k*3) (.bool b3)).set_ (k*3+1) (.slice A3 n3 c3)).set_ (k*3+2) (.slice E3 k3 f3);have C:=O.o;clear J L hb ah s a KK;refine tk 14 ?_;refine rc 15 (λKK a=>?_);go_simp;refine a.out _ _ (Cs.far hHeld y C) (λhHeld=>?_);clear a KK a0 a3 a1 a4 a2 a5 y C;refine zV ?_;clear hHeld t HX HB;go_wp2;go_roundg (n - k)
   case measure=>omega
   case rel=>exact⟨k+1,za,za,by go_num,aq.o,ai.o⟩
  ·have az:n=k:=za;subst az;have d4:decide ((n:Int)<(n:Int))=false:=zF;have HR:=zb (sQ 0 RL n R.o▸i);have HB:=zb hB;have q1:=(HS.o _ hB).blk.cell 0;clear i hB;go_wp2_with fail;have d:=(qZ wr.heap.size wr).drew;refine rg (zj q1 zO) (λhHeld=>?_);have HR:=zb (HR.o.keep d);have HB:=zb (zc HB.o d);clear q1 d;generalize wr.drew=D9 at*;refine tk 0 ?_;refine tk 1 ?_;refine tk 2 ?_;refine tk 3 ?_;refine tk 4 ?_;refine tk 5 ?_;refine tk 6 ?_;refine tk 7 ?_;refine tk 9 ?_;refine rc 8 (λKK a=>?_);go_simp;obtain⟨-,-,hL⟩:=(HS.o _ HB.o).lines za;(with_reducible refine(Vv hL am.o hn).mono ?_);rintro eo w6 ⟨g6,rfl,ay,ac,hb⟩;refine a.out _ _ (Cs.below hHeld hb) (λhHeld=>?_);have HR:=zb (HR.o.keep hb);have HB:=zb (zc HB.o hb);have HC:=zb ac.rows;clear a KK hb ac ay hL;refine rc 10 (λKK a=>?_);go_simp;obtain⟨-,-,hL⟩:=(HS.o _ HB.o).lines za;(with_reducible refine(Wr (HT.o _ HB.o) hL HC.o (yt HR.o) au.o U.o hn za h3 za za).mono ?_);rintro eo w7 ⟨g7,rfl,aa,ad,hb⟩;refine a.out _ _ (Cs.below hHeld hb) (λhHeld=>?_);have HF:zd (tj w n (wO n e.S (sf n e.S) RL) (.returned (.tuple #[.slice (some ⟨g7,0,none⟩) n n,.bool true])) w7):=⟨g7,rfl,qH HB.o.size aa,ad,zc HB.o hb⟩;clear a KK hb ad aa hL HR HB HC;refine tk 11 ?_;refine tk 12 ?_;refine zV ?_;clear hHeld;go_wp2;refine bodyPost_ret (v:=.tuple #[.slice (some ⟨g7,0,none⟩) n n,.bool true]) (by simp [results,results26,go_sem]) rfl ?_;exact HF.o
end
def jD (n:Nat)(e:yF)(s:List Rat):Nat->List Rat
 |0=>List.replicate n 0
 |k+1=>(jD n e s k).set (e.P.getD k 0) (e.T.getD k 0*s.getD k 0)
theorem ym.solInT (a:ym n n K M e)(hM:zM M n n)(hW:yy K M)(hb:b.length=n)(z:zD Kr b)(h1:1+(n+1)*Kr<=K')(h2:K<=K'):wK n K' (67+65*K) (λi j=>aF M e j i) (sf n e.S) e.S b where
 dS:=iP _ _ _
 dC:=a.dims
 turn:=λi hi k hk=>(gH (f:=λr c=>zl e.S c r) hi hk).symm
 inv:=a.inv.turn.congr λi hi j hj=>gH (f:=λr c=>zl e.S c r) hi hj
 det:=by
  have h:=vg.turn a.sz.det;rw [<-h];unfold zI
  split
  ·rfl
  ·exact gH (f:=λr c=>zl e.S c r) za za
 ali:=λi hi j hj=>(a.ali hM hW j hj i hi).up h2
 zS:=UO a.msz a.dims
 zC:=a.msz
 len:=hb
 tli:=(iR (by rw [hb];exact qX n) z).1.up h1
 bli:=λi hi=>((iR (by rw [hb];exact qX n) z).2 _ (QX (ws (d:=0) za))).up h1
theorem wK.ssz {a:Nat->Nat->Rat}{C:List (List Rat)}(h:wK n K L a S C b)(hn:n<=64)(d:0<K):zD (3*(65+64*K)) (wO n S C b):=by
 have h1:=h.bsz hn (qX n);have h2:=(h.dsz hn).szq za;have h3:=h.tli.szq d;exact(zD.scale (h2.mul h3).inv h1).up za
section
variable {w:World}{g n m ca K Kb K':Nat}{e:yF}{M:List (List Rat)}{b:List Rat}{cA cB cD:Nat}{A B D E:ze}{x0 x1 x2:Value}{qs:List Nat}
theorem Ok (hT:zu w)(h:zE w g n e A n cA B n cB D n cD x0 x1 x2 qs)(F:ym n n K M e)(hM:zM M n n)(hW:yy K M)(hA:zR w E n ca b)(z:zD Kb b)(hn:n<=64)(h1:1+(n+1)*Kb<=K')(h2:K<=K')(h3:67+65*K'<=500000)(bd:0<K)(hKb:Kb<=K'):
  Calls prog 27 #[.pointer (some ⟨g,0,none⟩),.slice E n ca] w (tj w n (jD n e (wO n (sf n e.S) e.S b) n)):=by
 have ar:=hA.len;have G:=F.solInT hM hW ar z h1 h2;have al:=zb G;have R:=zb (G.ssz hn za);have Q:zd ((wO n (sf n e.S) e.S b).length=n):=ZX;have a5:zd (∀k,k<n->e.P.getD k 0<n):=λk hk=>F.pn hk;have bb:zd (∀k,k<n->zn K (e.T.getD k 0)):=λk hk=>(F.tli hM hW hk).szq bd;have a0:=zb z;have a2:=zb F.dims;have HT:=zk w (λw' hb=>hT.on hb);have HS:=zk w (λw' hb=>h.below hb);have a8:=zb (fun(hn0:0<n)=>h.somes hn0 hn0 hn0);have a3:=zb h.lt;have az:zd (∀gB,B=some ⟨gB,0,none⟩->gB<w.heap.size):=λgB e9=>by subst e9;obtain⟨_,cs,h9,_⟩:=h.atB (q:=gB) rfl;exact h9.lt
 have a1:zd (∀gD,D=some ⟨gD,0,none⟩->gD<w.heap.size):=λgB e9=>by subst e9;obtain⟨_,cs,h9,_⟩:=h.atD (q:=gB) rfl;exact h9.lt
 have HV:=zk w (λw' hb=>zR.keep hA hb);have u:zd (∀k,jD n e (wO n (sf n e.S) e.S b) (k+1)=(jD n e (wO n (sf n e.S) e.S b) k).set (e.P.getD k 0) (e.T.getD k 0*(wO n (sf n e.S) e.S b).getD k 0)):=λk=>rfl;obtain⟨Z,hZ⟩:=nA n za;have HMK:∀W,(Instr.makeSlice 41 (.int .i64 (n:Int)) (.int .i64 (n:Int))).run prog W=.ok (.slice (some ⟨W.heap.size,0,none⟩) n n) (W.alloc (.cells Z 52)):=λW=>(hZ W).1;have ak:=zb (λW=>(hZ W).2);have i0:(0:Int)<=(n:Int):=za;have d1:((n:Int) !=(n:Int))=false:=zF;obtain⟨s,ah⟩:∃s,wO n (sf n e.S) e.S b=s:=⟨_,rfl⟩;have a7:=zb ah;rw [ah] at R Q u⊢;have aj:jD n e s 0=List.replicate n 0:=rfl;obtain⟨Y,ao⟩:∃Y,jD n e s=Y:=⟨_,rfl⟩;rw [ao] at u aj⊢;have am:=zb (eV h);clear hT h F hM hW hA z ar hZ G ah ao;go_enter func27,ntmps27;go_wp2_with fail;(with_reducible refine am.o.mono ?_);rintro eo w2 ⟨rfl,ac⟩;have a:=ak.o w2;rw [<-aj] at a;have m:=zb a;have ap:Below w2.heap.size w2 (w2.alloc (.cells Z 52)):=(qZ _ w2).alloc (qX _) _;have HB:=zb (zc ac ap);have q1:(w2.alloc (.cells Z 52)).cell? ⟨g,0,none⟩=some (.slice A n cA):=(HS.o _ HB.o).blk.cell 0;have L:=ac.size;clear ap ac am a aj;go_wp2_with fail;generalize w2.alloc (.cells Z 52)=W2 at*;generalize w2.heap.size=g5 at*;have i:=(qZ W2.heap.size W2).drew;refine rg (zj q1 zO) (λhHeld=>?_);have m:=zb (m.o.keep i);have HB:=zb (zc HB.o i);clear q1 i;generalize W2.drew=D4 at*;refine tk 0 ?_;refine tk 1 ?_;refine tk 2 ?_;refine tk 3 ?_;refine tk 5 ?_;refine tk 6 ?_;refine tk 7 ?_;refine tk 8 ?_;refine tk 9 ?_;refine tk 12 ?_;refine rc 4 (λKK d=>?_);go_simp;obtain⟨-,-,hL⟩:=(HS.o _ HB.o).lines za;(with_reducible refine(Vv hL a2.o hn).mono ?_);rintro eo w6 ⟨g6,rfl,bg,au,hb⟩;refine d.out _ _ (Cs.below hHeld hb) (λhHeld=>?_);have m:=zb (m.o.keep hb);have HB:=zb (zc HB.o hb);have HC:=zb au.rows;clear d KK hb au bg hL;refine rc 10 (λKK d=>?_);go_simp;obtain⟨-,-,hL⟩:=(HS.o _ HB.o).lines za;(with_reducible refine(Wr (HT.o _ HB.o) HC.o hL (HV.o _ HB.o) a0.o al.o hn za h3 za za).mono ?_);rintro eo w7 ⟨g7,rfl,bh,j,hb⟩;have j:yf w7 g7 n (wO n (sf n e.S) e.S b):=j;rw [a7.o] at j;refine d.out _ _ (Cs.below hHeld hb) (λhHeld=>?_);have bk:g5≠g7:=by have:=m.o.lt;omega
 have a:=m.o.keep hb;have hB:=zc HB.o hb;clear d KK hb bh hL HC m HB;refine tk 11 ?_;refine zV ?_;clear hHeld;go_wp2_with fail
 go_loopg [29] (n+1) (λgg ix wr=>∃(k:Nat),k<=n/\n<gg+k/\ix=.int .i64 k/\yf wr g5 n (Y k)/\yf wr g7 n s/\Below w.heap.size w wr)
 case atStart=>exact⟨0,qM _,za,rfl,a,j,hB⟩
 case round=>
  clear a j hB;obtain⟨k,hkn,hg,rfl,a,j,hB⟩:=hrel;by_cases hlt:k<n
  ·have d4:decide ((k:Int)<(n:Int))=true:=decide_eq_true za;obtain⟨gA,gB,gD,rfl,rfl,rfl⟩:=a8.o za;have i5:(0:Int)<=(k:Int):=za;have i6:(k:Int)<(n:Int):=za;obtain⟨rr,ag⟩:∃x,e.P.getD k 0=x:=⟨_,rfl⟩;have af:=a5.o k hlt;have ai:=u.o k;rw [ag] at af ai;have i7:(0:Int)<=(rr:Int):=za;have i8:(rr:Int)<(n:Int):=za;obtain⟨ae,bx,Bx,mx,dx,Ex,ux,vx,e9,-,s0,s1,s2,hx⟩:=(yt j).get (qZ _ _) hlt;injection e9 with e9;subst e9;rw [xv] at s0 s1 s2;obtain⟨y,an,-⟩:=zA wr 52 #[.bool bx,.slice Bx mx dx,.slice Ex ux vx];have hB:=zc hB y;have hs:=HS.o _ hB;have q0:=(hs.perm.ready hlt).1;rw [ag] at q0;have p1:=hs.blk.cell 1;have p2:=hs.blk.cell 2;obtain⟨br,Br,mr,dr,Er,ur,vr,t0,t1,t2,aw⟩:=hs.timeGet hlt;obtain⟨r0,r1,r2⟩:=an.c3;have bc:zd (zn (3*(65+64*K')) (s.getD k 0)):=R.o.at_ (by rw [Q.o];exact hlt);have ba:=zb (bb.o k hlt);have J:=zb aw;have HX:=zb (hx.below y);have H:=zb (a.keep y);have I:=zb (j.keep y);have HB:=zb hB;have a9:=zb ai;have bi:=a3.o;have be:=az.o gB rfl;have bf:=a1.o gD rfl;have bl:=a.lt;have C:g≠g5:=za;have o:gB≠g5:=za;have V:gD≠g5:=za;have t:wr.heap.size≠g5:=za;have O:zd (uk g5 [(⟨g,2,none⟩,Value.slice (some ⟨gD,0,none⟩) n cD),(⟨gD,k,none⟩,.int .i64 (rr:Int)),(⟨g,1,none⟩,.slice (some ⟨gB,0,none⟩) n cB),(⟨gB,k*3,none⟩,.bool br),(⟨gB,k*3+1,none⟩,.slice Br mr dr),(⟨gB,k*3+2,none⟩,.slice Er ur vr),(⟨wr.heap.size,0,none⟩,.bool bx),(⟨wr.heap.size,1,none⟩,.slice Bx mx dx),(⟨wr.heap.size,2,none⟩,.slice Ex ux vx)]):=⟨C,V,C,o,o,o,t,t,t,trivial⟩;clear hs aw hx a j hB ag ai y an bi be bf bl C o V t;generalize e.T.getD k 0=T at*;generalize s.getD k 0=X at*;go_wp2_with fail;clear s0 s1 s2;generalize wr.alloc (.cells #[.bool bx,.slice Bx mx dx,.slice Ex ux vx] 52)=W8 at*;generalize wr.heap.size=g8 at*;have i:=(qZ W8.heap.size W8).drew;refine rg (zj p2 (zj q0 (zj p1 (zj t0 (zj t1 (zj t2 (zj r0 (zj r1 (zj r2 zO))))))))) (λhHeld=>?_);have J:=zb (J.o.below i);have HX:=zb (HX.o.below i);have H:=zb (H.o.keep i);have I:=zb (I.o.keep i);have HB:=zb (zc HB.o i);clear q0 p1 p2 t0 t1 t2 r0 r1 r2 i;generalize W8.drew=D9 at*;refine tk 0 ?_;refine tk 1 ?_;refine tk 2 ?_;refine tk 3 ?_;refine tk 4 ?_;refine tk 5 ?_;refine tk 6 ?_;refine tk 7 ?_;refine tk 8 ?_;refine tk 9 ?_;refine tk 10 ?_;refine tk 11 ?_;refine tk 12 ?_;refine tk 13 ?_;refine tk 14 ?_;refine tk 15 ?_;refine rc 16 (λKK d=>?_);go_simp;(with_reducible refine(uT (HT.o _ HB.o) J.o HX.o ba.o bc.o za za).mono ?_);rintro eo w3 ⟨b3,A3,n3,c3,E3,k3,f3,rfl,ax,hb⟩;refine d.out _ _ (Cs.below hHeld hb) (λhHeld=>?_);have N:=H.o.keep hb;have ad:=wC.set_ z6 N af ax;rw [<-a9.o] at ad;obtain⟨o0,o1,o2,bm,bp,bn,bq,bo,bs⟩:=N.ready af (.bool b3) (.slice A3 n3 c3);obtain⟨cs5,aq,aa,-⟩:=N.blk;have av:=(((ya.set_ g5 (rr*3) w3 (.bool b3)).trans (ya.set_ g5 (rr*3+1) _ (.slice A3 n3 c3))).trans (ya.set_ g5 (rr*3+2) _ (.slice E3 k3 f3)));have a4:=zb ((I.o.keep hb).turn av aq (tr aa) (Ne.symm bk));have a6:=zb ad;have ay:=zb ((((zc HB.o hb).setCell (p:=⟨g5,rr*3,none⟩) L (.bool b3)).setCell (p:=⟨g5,rr*3+1,none⟩) L (.slice A3 n3 c3)).setCell (p:=⟨g5,rr*3+2,none⟩) L (.slice E3 k3 f3));have U:=(((zT.refl g5 w3).set_ (rr*3) (.bool b3)).set_ (rr*3+1) (.slice A3 n3 c3)).set_ (rr*3+2) (.slice E3 k3 f3);have ab:=O.o;clear N ad hb ax H I d KK aq aa av;refine tk 17 ?_;refine rc 18 (λKK d=>?_);go_simp;refine d.out _ _ (Cs.far hHeld U ab) (λhHeld=>?_);clear d KK bm bp bn bq bo bs U ab;refine zV ?_;clear hHeld J HX HB O;go_wp2;go_roundg (n - k)
   case measure=>omega
   case rel=>exact⟨k+1,za,za,by go_num,a6.o,a4.o,ay.o⟩
  ·have bj:n=k:=za;subst bj;have d4:decide ((n:Int)<(n:Int))=false:=zF;have HF:zd (tj w n (Y n) (.returned (.tuple #[.slice (some ⟨g5,0,none⟩) n n,.bool true])) wr):=⟨g5,rfl,L,a,hB⟩;clear a j hB;go_wp2;refine bodyPost_ret (v:=.tuple #[.slice (some ⟨g5,0,none⟩) n n,.bool true]) (by simp [results,results27,go_sem]) rfl ?_;exact HF.o
end
