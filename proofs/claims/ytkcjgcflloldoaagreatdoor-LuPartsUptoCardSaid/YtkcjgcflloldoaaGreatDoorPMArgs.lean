/- What this claim leans on. -/
import Derived.Test.YtkcjgcflloldoaaGreatDoorPLFac
import Derived.Test.YtkcjgcflloldoaaGreatDoorPLSolv
set_option linter.unusedVariables false
set_option linter.unusedSimpArgs false
namespace Go.Proofs.YtkcjgcflloldoaaGreatDoor
open Go Go.RowKit Go.Proofs.Tryz
open Go.ChangeShapes Go.WideShapes Go.ChangeAt Go.Deep
set_option maxHeartbeats 16000000
variable {e:xh}{M S:List (List Rat)}{b:List Rat}{K K' Kr L c n:Nat}{t t0:TypeId}{v:Value}{W:World}
theorem Ra {H:Type}{i:TypeId×Value->H}{P:Program}{d:Nat}{t9:TypeId}{f0 f1:Field}{x:DataW H×List MemPlace}
  (g:P.underlying t9=some (.slice t0)) (j:P.cellsOf t0=1) (ht:P.underlying t0=some (.slice t)) (hs:P.underlying t=some (.struct #[f0,f1])) (hf:(f0.offset,P.cellsOf f0.type,f1.offset,P.cellsOf f1.type)=(0,1,1,1)) (hC:P.cellsOf t=2) (h0:P.underlying f0.type=some (.int .i64)) (h1:P.underlying f1.type=some (.int .i64))
  (h:DataW.trod i P W 0 (λ_=>true) true d t9 [v]=some x) (hb:Rows.uptoBulk x.1<=1048576):∃A n c R,v=.slice A n c/\uH W A n c R:=by
 have go:∀A n c,[v]=[Value.slice A n c]->∃A n c R,v=.slice A n c/\uH W A n c R:=λA n c e=>by
  simp only [List.cons.injEq,and_true] at e;subst e;obtain⟨R,hR⟩:=Rn g j ht hs hf hC h0 h1 (A:=A) (n:=n) (c:=c) (by simpa [Value.cells] using h) hb;exact⟨A,n,c,R,rfl,hR⟩
 rcases open_slice g h with⟨hcs,_⟩|⟨a,len,cap,m,k,D,Pl,hcs,_⟩
 ·exact go _ _ _ hcs
 ·exact go _ _ _ hcs
theorem fO {H:Type}{g:TypeId×Value->H}{P:Program}{r:Reach}{b0:Nat}{t8 t9:TypeId}{g0 g1 f0 f1:Field}{d:DataW H}{p:List MemPlace}
  (k:P.underlying t8=some (.struct #[g0,g1])) (a:oneCellFields P #[g0,g1]=true) (i:P.cellsOf t8=2) (k0:P.underlying g0.type=some (.int .u8)) (o:P.underlying g1.type=some (.slice t0)) (j:P.cellsOf t0=1) (ht:P.underlying t0=some (.slice t))
  (hs:P.underlying t=some (.struct #[f0,f1])) (hf:(f0.offset,P.cellsOf f0.type,f1.offset,P.cellsOf f1.type)=(0,1,1,1)) (hC:P.cellsOf t=2) (h0:P.underlying f0.type=some (.int .i64)) (h1:P.underlying f1.type=some (.int .i64))
  (hv:Value.okWide P W r b0 t8 v) (h:DataW.Trod g P W 0 (λ_=>true) true t8 v d p) (hb:Rows.uptoBulk d<=1048576):∃(z:Nat) (A:ze) (n c:Nat) (R:Nat->ze×Nat×Nat×List (Int×Int)),v=.agg #[.int .u8 (z:Int),.slice A n c]/\z<=255/\uH W A n c R:=by
 obtain⟨v0,v1,y0,y1,n,rfl,rfl,rfl,e0,e1⟩:=Go.Joins.open_agg2 k a i hv h;obtain⟨z,hz,_,wz⟩:=DataW.trod_int k0 e0;simp only [List.cons.injEq,and_true] at hz;subst hz;have bz:=bounds_u8 wz;obtain⟨A,m,c,R,rfl,hR⟩:=Ra o j ht hs hf hC h0 h1 e1 (by simp only [Rows.uptoBulk,Rows.uptoBulkAll] at hb;omega);exact⟨z.toNat,A,m,c,R,by rw [Int.toNat_of_nonneg bz.1],za,hR⟩
open Go Go.RowKit Go.Proofs.Tryz
set_option maxHeartbeats 16000000
set_option maxRecDepth 100000
theorem y4.rdsz (a:y4 n c K M e)(hM:zQ M n n)(hn:n<=64)(hW:xm K M):zm (1+64*K) e.rd:=by
 have hr:zm (1+64*K) (uj M):=by
  have:=aR hW M.length (qX _);rw [List.take_length] at this;exact(this.up (yJ (qE _ (by rw [hM.rows];exact hn)) _)).szq za
 rcases a.rd with e1|e1<;>rw [e1]
 ·exact hr
 ·exact hr.neg
section
variable {w:World}{g n K:Nat}{e:xh}{M:List (List Rat)}{cA cB cD:Nat}{A B D:ze}{x0 x1 x2:Value}{qs:List Nat}
theorem SC (hT:zu w)(h:zF w g n (xt M n) A n cA B n cB D n cD x0 x1 x2 qs)(a:y4 n n K M (xt M n))(hM:zQ M n n)(hW:xm K M)(hn:n<=64)(hK:67+65*K<=8388608):
  Calls prog 15 #[.pointer (some ⟨g,0,none⟩)] w (yp w (zD n (zn M))):=by
 have C:zK (zn (xt M n).S) n / (xt M n).rd=zD n (zn M):=by
  have h1:=pt a;have h2:=a.rne;rw [h1];grind
 rw [<-C];generalize xt M n=e at*;obtain⟨d,t,-⟩:=zw w 54 #[.bool false,.slice none 0 0,.slice none 0 0];obtain⟨-,-,hL⟩:=h.lines za;have I:=zj w (λw' hb=>hT.on hb);have i:=zj w (λw' hb=>Zo (q:=cA) (k:=n) (z:=IntKind.i64.wrap ((n:Int) - 1)) (by rw [QS _ za]) (hT.on hb) (hL.below (yk yt) hb) a.dims (qX _) (qX _));have H:=zj w (λw' hb=>fu (h.below hb));have G:=a.msz;have s:=zb (Zz G a.dims (qX _) (qX _) za);have o:=zb (a.rdsz hM hn hW);have j:=zb a.rne;have hs:=h.below d;have p0:=hs.blk.cell 0;obtain⟨br,Br,mr,dr,Er,ur,vr,rfl,rfl,rfl,E⟩:=hs.rsd;have t0:=hs.blk.cell 3;have t1:=hs.blk.cell 4;have t2:=hs.blk.cell 5;have m:=zb E;have HB:=zb d;have c:=zb t;obtain⟨Y,y⟩:∃x,zK (zn e.S) n=x:=⟨_,rfl⟩;obtain⟨R,u⟩:∃x,e.rd=x:=⟨_,rfl⟩;rw [y] at i s⊢;rw [u] at o j m⊢;clear hT h a hL d t hs E G y u C;go_enter func15,ntmps15;go_wp2_with fail;generalize w.alloc (.cells #[.bool false,.slice none 0 0,.slice none 0 0] 54)=W1 at*;have GG:=zj W1 (λw' h=>(zk (zq h p0) (zk (zq h t0) (zk (zq h t1) (zk (zq h t2) zO)))));clear p0 t0 t1 t2;refine tC (λhHeld=>?_);refine tl 0 GG.o ?_;refine tl 1 GG.o ?_;refine tl 2 GG.o ?_;refine tl 3 GG.o ?_;refine tl 4 GG.o ?_;refine tl 8 GG.o ?_;refine tl 9 GG.o ?_;refine tl 10 GG.o ?_;refine tl 11 GG.o ?_;refine sO W1 uT (uo 3 (.old 9 (.slice A n cA):: .old 10 (.pointer (some ⟨g,0,none⟩)):: .val 11 (FV (.int .i64 (n:Int))):: .val 12 (FV (.int .i64 (IntKind.i64.wrap ((n:Int) - 1)))):: .val 13 (FQ Y)::uo 3 (.old 17 (.agg #[.bool br,.slice Br mr dr,.slice Er ur vr]):: .val 18 (wU (Y / R) true):: .val 5 (wU (Y / R) true):: .val 19 (FQ (Y / R)):: .val 20 (FV (.bool true)):: .box 3 54 #[.bool false,.slice none 0 0,.slice none 0 0] 17 14:: .sto 16 14:: .val 4 (FV (.bool true))::[]))) hHeld (sP 3 3 (xy (xy (xn (xn (xn (sP 3 11 (xy (xn (tD 12 (vQ 13 wU.l (vQ 13 wU.r (ut (uu (tD 15 sQ)))))) ?_))) ?_) ?_) ?_)))) ?_
 ·intro AA wx hb hk KK Q k;obtain⟨_,r1,b1,A1,n1,c1,E1,k1,f1,rfl,h1⟩:=vd (hk 7 rfl) rfl;have r2:AA.tmps.getD 17 undef=.agg #[.bool br,.slice Br mr dr,.slice Er ur vr]:=hk 11 rfl;have h2:=m.o.below hb;go_simp;(with_reducible refine(fw _ _ b1 A1 n1 c1 E1 k1 f1 br Br mr dr Er ur vr _ (I.o _ (zc HB.o hb)) h1 h2 (s.o.fit h1 za) (o.o.fit h2 za) j.o).mono ?_);rintro e wy ⟨b6,A6,n6,c6,E6,k6,f6,rfl,h6,hb⟩;exact k _ _ hb ⟨b6,A6,n6,c6,E6,k6,f6,rfl,h6⟩
 ·intro AA wx hb hk KK Q k;have r1:AA.tmps.getD 9 undef=.slice A n cA:=hk 3 rfl;obtain⟨_,r2,rfl⟩:=vd (hk 6 rfl) rfl;go_simp;(with_reducible refine(i.o _ (zc HB.o hb)).mono ?_);rintro e wy ⟨b6,A6,n6,c6,E6,k6,f6,rfl,h6,hb⟩;exact k _ _ hb ⟨b6,A6,n6,c6,E6,k6,f6,rfl,h6⟩
 ·intro AA wx hb hk KK Q k;obtain⟨_,r2,rfl⟩:=vd (hk 5 rfl) rfl;go_simp;exact k _ _ (qZ _ _) rfl
 ·intro AA wx hb hk KK Q k;have r1:AA.tmps.getD 10 undef=.pointer (some ⟨g,0,none⟩):=hk 4 rfl;go_simp;(with_reducible refine(H.o _ (zc HB.o hb)).mono ?_);rintro e wy ⟨rfl,hb⟩;exact k _ _ hb rfl
 rintro vs ad w9 hb hf -;obtain⟨bZ,AZ,nZ,cZ,EZ,kZ,fZ,e6,h6⟩:=gI (F:=FQ _) hf 14;obtain⟨-,k6⟩:=gH hf 16;rw [e6] at k6;simp only [vX,uo,vv,List.foldl,zI];generalize ad 16=g6 at*;have HG:=zb (WG h6 (zg hb c.o) (zc HB.o hb));obtain⟨m0,m1,m2⟩:=zh.c3 k6;obtain⟨sc0,sf0,sc1,sf1,sc2,sf2⟩:=yf (zg hb c.o) (.bool bZ) (.slice AZ nZ cZ);obtain⟨r0,r1,r2⟩:=(ym (zg hb c.o) (.bool bZ) (.slice AZ nZ cZ) (.slice EZ kZ fZ)).c3;clear hb hf e6 h6 k6 GG hHeld;go_wp2;refine bodyPost_ret (v:=.agg #[.bool bZ,.slice AZ nZ cZ,.slice EZ kZ fZ]) (by simp [results,results15,go_sem,r0,r1,r2]) rfl ?_;exact HG.o
end
open Go Go.RowKit Go.Proofs.Tryz
set_option maxHeartbeats 16000000
set_option maxRecDepth 100000
def kB (n:Nat)(e:xh)(b:List Rat):List Rat:=(List.range n).map λk=>e.T.getD k 0*b.getD (e.P.getD k 0) 0
theorem Un (n:Nat)(e:xh)(b:List Rat):(kB n e b).length=n:=by unfold kB;simp
theorem P2 {k:Nat}(e:xh)(b:List Rat)(h:k<n):(kB n e b)[k]?=some (e.T.getD k 0*b.getD (e.P.getD k 0) 0):=by
 unfold kB;rw [qW,xD h];rfl
theorem Uz {Kb:Nat}(a:y4 n n K M e)(hM:zQ M n n)(hW:xm K M)(hb:b.length=n)(z:zN Kb b)(c:0<K):zN (K+Kb) (kB n e b):=λx hx=>by
 obtain⟨k,hk,rfl⟩:=List.mem_map.1 hx;have hk:=List.mem_range.1 hk;exact((a.tli hM hW hk).szq c).mul (z.at_ (by rw [hb];exact a.pn hk))
def sj (n:Nat)(S:List (List Rat)):List (List Rat):=wF n n λr c=>zn S c r
theorem TP (h:yc L S)(hd:zQ S n n):yc L (sj n S):=λrow a x hx=>by
 obtain⟨r,hr,rfl⟩:=List.mem_map.1 a;obtain⟨c,hc,rfl⟩:=List.mem_map.1 hx;exact h.at_ hd (List.mem_range.1 hc) (List.mem_range.1 hr)
theorem y4.solIn (a:y4 n n K M e)(hM:zQ M n n)(hW:xm K M)(hb:b.length=n)(z:zN Kr b)(h1:1+(n+1)*Kr<=K')(h2:K<=K'):vj n K' (67+65*K) (aF M e) e.S (sj n e.S) b where
 dS:=a.dims
 dC:=gZ _ _ _
 turn:=λi hi k hk=>fC hk hi
 inv:=a.inv
 det:=a.sz.det
 ali:=λi hi j hj=>(a.ali hM hW i hi j hj).up h2
 zS:=a.msz
 zC:=TP a.msz a.dims
 len:=hb
 tli:=(fa (by rw [hb];exact qX n) z).1.up h1
 bli:=λi hi=>((fa (by rw [hb];exact qX n) z).2 _ (QY (vi (d:=0) za))).up h1
section
variable {w:World}{g n m ca K Kb K':Nat}{e:xh}{M:List (List Rat)}{b:List Rat}{cA cB cD:Nat}{A B D E:ze}{x0 x1 x2:Value}{qs:List Nat}
theorem pw (hT:zu w)(h:zF w g n e A n cA B n cB D n cD x0 x1 x2 qs)(i:y4 n n K M e)(hM:zQ M n n)(hW:xm K M)(hA:z7 w E n ca b)(z:zN Kb b)(hn:n<=64)(h1:1+(n+1)*(K+Kb)<=K')(h2:K<=K')(h3:67+65*K'<=500000)(C:0<K):
  Calls prog 27 #[.pointer (some ⟨g,0,none⟩),.slice E n ca] w (oV w n (uD n e.S (sj n e.S) (kB n e b))):=by
 have t:=hA.len;have R:=zb (i.solIn hM hW (Un n e b) (Uz i hM hW t z C) h1 h2);have ar:=zb (Uz i hM hW t z C);have aq:zd (∀k,k<n->(kB n e b)[k]?=some (e.T.getD k 0*b.getD (e.P.getD k 0) 0)):=λk hk=>P2 e b hk;have Q:=zb (Un n e b);have hkb:K+Kb<=K':=by
  have:K+Kb<=(n+1)*(K+Kb):=Nat.le_mul_of_pos_left _ za;omega
 have ao:zd (∀k,k<n->e.P.getD k 0<n):=λk hk=>i.pn hk;have aw:zd (∀k,k<n->zm K (e.T.getD k 0)):=λk hk=>(i.tli hM hW hk).szq C;have ak:zd (∀k,k<n->zm Kb (b.getD k 0)):=λk hk=>z.at_ (by rw [t];exact hk);have al:=zb i.dims;have HT:=zj w (λw' hb=>hT.on hb);have HS:=zj w (λw' hb=>h.below hb);have an:=zb h.lt;have aj:zd (∀gB,B=some ⟨gB,0,none⟩->gB<w.heap.size):=λgB e9=>by subst e9;obtain⟨_,cs,h9,_⟩:=h.atB (q:=gB) rfl;exact h9.lt
 have au:=zb (fun(hn0:0<n)=>h.somes hn0 hn0 hn0);have HV:=zb hA;obtain⟨Z,hZ⟩:=jo n za;have HMK:∀W,(Instr.makeSlice 58 (.int .i64 (n:Int)) (.int .i64 (n:Int))).run prog W=.ok (.slice (some ⟨W.heap.size,0,none⟩) n n) (W.alloc (.cells Z 54)):=λW=>(hZ W).1;have O:=zb (λW=>(hZ W).2);have i0:(0:Int)<=(n:Int):=za;have d1:((n:Int) !=(n:Int))=false:=zG;generalize kB n e b=RL at*;have U:=zb (fu h);clear hT h i hM hW hA z t hZ;go_enter func27,ntmps27;go_wp2_with fail;(with_reducible refine U.o.mono ?_);rintro eo w2 ⟨rfl,F⟩;have d:=O.o w2;have V:Below w2.heap.size w2 (w2.alloc (.cells Z 54)):=(qZ _ w2).alloc (qX _) _;have hB:=zc F V;have q1:(w2.alloc (.cells Z 54)).cell? ⟨g,2,none⟩=some (.slice D n cD):=(HS.o _ hB).blk.cell 2;have G:=F.size;rw [<-lZ 0 RL n] at d;clear V F U;go_wp2_with fail;clear q1;generalize w2.alloc (.cells Z 54)=W2 at*;generalize w2.heap.size=g5 at*
 go_loopg [22] (n+1) (λgg ix wr=>∃(k:Nat),k<=n/\n<gg+k/\ix=.int .i64 k/\yn wr g5 n (uJ 0 RL n k)/\Below w.heap.size w wr)
 case atStart=>exact⟨0,QQ _,za,rfl,d,hB⟩
 case round=>
  clear d hB;obtain⟨k,hkn,hg,rfl,d,hB⟩:=hrel;by_cases hlt:k<n
  ·have d4:decide ((k:Int)<(n:Int))=true:=decide_eq_true za;obtain⟨gA,gB,gD,rfl,rfl,rfl⟩:=au.o za;have hs:=HS.o _ hB;obtain⟨rr,ad⟩:∃x,e.P.getD k 0=x:=⟨_,rfl⟩;have L:=ao.o k hlt;have H:=aq.o k hlt;have q0:=(hs.perm.ready hlt).1;rw [ad] at L H q0;have p1:=hs.blk.cell 1;obtain⟨br,Br,mr,dr,Er,ur,vr,t0,t1,t2,af⟩:=hs.timeGet hlt;obtain⟨ae,bx,Bx,mx,dx,Ex,ux,vx,rfl,hael,s0,s1,s2,hx⟩:=HV.o.get hB L;have i5:(0:Int)<=(k:Int):=za;have i6:(k:Int)<(n:Int):=za;have i7:(0:Int)<=(rr:Int):=za;have i8:(rr:Int)<(n:Int):=za;have hgl:=an.o;have hbl:=aj.o gB rfl;have aa:g≠g5:=za;have j:gB≠g5:=za;have m:ae.block≠g5:=za;have N:zd (uE g5 [(⟨g,1,none⟩,Value.slice (some ⟨gB,0,none⟩) n cB),(⟨gB,k*3,none⟩,.bool br),(⟨gB,k*3+1,none⟩,.slice Br mr dr),(⟨gB,k*3+2,none⟩,.slice Er ur vr),(ae.add (rr*3),.bool bx),((ae.add (rr*3)).add 1,.slice Bx mx dx),((ae.add (rr*3)).add 2,.slice Ex ux vx)]):=⟨aa,j,j,j,by rw [yw];exact m,by rw [yw,yw];exact m,by rw [yw,yw];exact m,trivial⟩;have av:=zb (aw.o k hlt);have ai:=zb (ak.o rr L);have s:=zb af;have HX:=zb hx;have o:=zb d;have HB:=zb hB;have am:=zb H;clear hs af hx d hB H ad;generalize e.T.getD k 0=T at*;generalize b.getD rr 0=X at*;go_wp2_with fail;have c:=(qZ wr.heap.size wr).drew;refine rg (zk p1 (zk t0 (zk t1 (zk t2 (zk s0 (zk s1 (zk s2 zO))))))) (λhHeld=>?_);have s:=zb (s.o.below c);have HX:=zb (HX.o.below c);have o:=zb (o.o.keep c);have HB:=zb (zc HB.o c);clear q0 p1 t0 t1 t2 s0 s1 s2 c;generalize wr.drew=D9 at*;refine tk 0 ?_;refine tk 1 ?_;refine tk 2 ?_;refine tk 3 ?_;refine tk 4 ?_;refine tk 5 ?_;refine tk 6 ?_;refine tk 7 ?_;refine tk 8 ?_;refine tk 9 ?_;refine tk 10 ?_;refine tk 11 ?_;refine tk 12 ?_;refine rc 13 (λKK a=>?_);go_simp;(with_reducible refine(sG (HT.o _ HB.o) s.o HX.o av.o ai.o za za).mono ?_);rintro eo w3 ⟨b3,A3,n3,c3,E3,k3,f3,rfl,ag,hb⟩;refine a.out _ _ (Cs.below hHeld hb) (λhHeld=>?_);have I:=o.o.keep hb;have J:=wH.set_ yt I hlt ag;rw [kf 0 RL n k Q.o hlt _ am.o] at J;obtain⟨o0,o1,o2,az,a2,a0,a3,a1,a4⟩:=I.ready hlt (.bool b3) (.slice A3 n3 c3);have ap:=zb J;have ah:=zb ((((zc HB.o hb).setCell (p:=⟨g5,k*3,none⟩) G (.bool b3)).setCell (p:=⟨g5,k*3+1,none⟩) G (.slice A3 n3 c3)).setCell (p:=⟨g5,k*3+2,none⟩) G (.slice E3 k3 f3));have u:=(((xg.refl g5 w3).set_ (k*3) (.bool b3)).set_ (k*3+1) (.slice A3 n3 c3)).set_ (k*3+2) (.slice E3 k3 f3);have y:=N.o;clear I J hb ag o a KK;refine tk 14 ?_;refine rc 15 (λKK a=>?_);go_simp;refine a.out _ _ (Cs.far hHeld u y) (λhHeld=>?_);clear a KK az a2 a0 a3 a1 a4 u y;refine z4 ?_;clear hHeld s HX HB;go_wp2;go_roundg (n - k)
   case measure=>omega
   case rel=>exact⟨k+1,za,za,by go_num,ap.o,ah.o⟩
  ·have ay:n=k:=za;subst ay;have d4:decide ((n:Int)<(n:Int))=false:=zG;have HR:=zb (ke 0 RL n Q.o▸d);have HB:=zb hB;have q1:=(HS.o _ hB).blk.cell 0;clear d hB;go_wp2_with fail;have c:=(qZ wr.heap.size wr).drew;refine rg (zk q1 zO) (λhHeld=>?_);have HR:=zb (HR.o.keep c);have HB:=zb (zc HB.o c);clear q1 c;generalize wr.drew=D9 at*;refine tk 0 ?_;refine tk 1 ?_;refine tk 2 ?_;refine tk 3 ?_;refine tk 4 ?_;refine tk 5 ?_;refine tk 6 ?_;refine tk 7 ?_;refine tk 9 ?_;refine rc 8 (λKK a=>?_);go_simp;obtain⟨-,-,hL⟩:=(HS.o _ HB.o).lines za;(with_reducible refine(U1 hL al.o hn).mono ?_);rintro eo w6 ⟨g6,rfl,ax,ab,hb⟩;refine a.out _ _ (Cs.below hHeld hb) (λhHeld=>?_);have HR:=zb (HR.o.keep hb);have HB:=zb (zc HB.o hb);have HC:=zb ab.rows;clear a KK hb ab ax hL;refine rc 10 (λKK a=>?_);go_simp;obtain⟨-,-,hL⟩:=(HS.o _ HB.o).lines za;(with_reducible refine(VF (HT.o _ HB.o) hL HC.o (wE HR.o) ar.o R.o hn za h3 za za).mono ?_);rintro eo w7 ⟨g7,rfl,Y,ac,hb⟩;refine a.out _ _ (Cs.below hHeld hb) (λhHeld=>?_);have HF:zd (oV w n (uD n e.S (sj n e.S) RL) (.returned (.tuple #[.slice (some ⟨g7,0,none⟩) n n,.bool true])) w7):=⟨g7,rfl,qD HB.o.size Y,ac,zc HB.o hb⟩;clear a KK hb ac Y hL HR HB HC;refine tk 11 ?_;refine tk 12 ?_;refine z4 ?_;clear hHeld;go_wp2;refine bodyPost_ret (v:=.tuple #[.slice (some ⟨g7,0,none⟩) n n,.bool true]) (by simp [results,results27,go_sem]) rfl ?_;exact HF.o
end
open Go Go.RowKit Go.Proofs.Tryz
set_option maxHeartbeats 16000000
set_option maxRecDepth 100000
def iC (n:Nat)(e:xh)(s:List Rat):Nat->List Rat
 |0=>List.replicate n 0
 |k+1=>(iC n e s k).set (e.P.getD k 0) (e.T.getD k 0*s.getD k 0)
theorem y4.solInT (a:y4 n n K M e)(hM:zQ M n n)(hW:xm K M)(hb:b.length=n)(z:zN Kr b)(h1:1+(n+1)*Kr<=K')(h2:K<=K'):vj n K' (67+65*K) (λi j=>aF M e j i) (sj n e.S) e.S b where
 dS:=gZ _ _ _
 dC:=a.dims
 turn:=λi hi k hk=>(fC (f:=λr c=>zn e.S c r) hi hk).symm
 inv:=a.inv.turn.congr λi hi j hj=>fC (f:=λr c=>zn e.S c r) hi hj
 det:=by
  have h:=vn.turn a.sz.det;rw [<-h];unfold zK
  split
  ·rfl
  ·exact fC (f:=λr c=>zn e.S c r) za za
 ali:=λi hi j hj=>(a.ali hM hW j hj i hi).up h2
 zS:=TP a.msz a.dims
 zC:=a.msz
 len:=hb
 tli:=(fa (by rw [hb];exact qX n) z).1.up h1
 bli:=λi hi=>((fa (by rw [hb];exact qX n) z).2 _ (QY (vi (d:=0) za))).up h1
theorem vj.ssz {a:Nat->Nat->Rat}{C:List (List Rat)}(h:vj n K L a S C b)(hn:n<=64)(c:0<K):zN (3*(65+64*K)) (uD n S C b):=by
 have h1:=h.bsz hn (qX n);have h2:=(h.dsz hn).szq za;have h3:=h.tli.szq c;exact(zN.scale (h2.mul h3).inv h1).up za
section
variable {w:World}{g n m ca K Kb K':Nat}{e:xh}{M:List (List Rat)}{b:List Rat}{cA cB cD:Nat}{A B D E:ze}{x0 x1 x2:Value}{qs:List Nat}
theorem NL (hT:zu w)(h:zF w g n e A n cA B n cB D n cD x0 x1 x2 qs)(C:y4 n n K M e)(hM:zQ M n n)(hW:xm K M)(hA:z7 w E n ca b)(z:zN Kb b)(hn:n<=64)(h1:1+(n+1)*Kb<=K')(h2:K<=K')(h3:67+65*K'<=500000)(bc:0<K)(hKb:Kb<=K'):
  Calls prog 28 #[.pointer (some ⟨g,0,none⟩),.slice E n ca] w (oV w n (iC n e (uD n (sj n e.S) e.S b) n)):=by
 have aq:=hA.len;have F:=C.solInT hM hW aq z h1 h2;have ak:=zb F;have Q:=zb (F.ssz hn za);have O:zd ((uD n (sj n e.S) e.S b).length=n):=NJ;have a4:zd (∀k,k<n->e.P.getD k 0<n):=λk hk=>C.pn hk;have ba:zd (∀k,k<n->zm K (e.T.getD k 0)):=λk hk=>(C.tli hM hW hk).szq bc;have az:=zb z;have a1:=zb C.dims;have HT:=zj w (λw' hb=>hT.on hb);have HS:=zj w (λw' hb=>h.below hb);have a7:=zb (fun(hn0:0<n)=>h.somes hn0 hn0 hn0);have a2:=zb h.lt;have ay:zd (∀gB,B=some ⟨gB,0,none⟩->gB<w.heap.size):=λgB e9=>by subst e9;obtain⟨_,cs,h9,_⟩:=h.atB (q:=gB) rfl;exact h9.lt
 have a0:zd (∀gD,D=some ⟨gD,0,none⟩->gD<w.heap.size):=λgB e9=>by subst e9;obtain⟨_,cs,h9,_⟩:=h.atD (q:=gB) rfl;exact h9.lt
 have HV:=zj w (λw' hb=>z7.keep hA hb);have t:zd (∀k,iC n e (uD n (sj n e.S) e.S b) (k+1)=(iC n e (uD n (sj n e.S) e.S b) k).set (e.P.getD k 0) (e.T.getD k 0*(uD n (sj n e.S) e.S b).getD k 0)):=λk=>rfl;obtain⟨Z,hZ⟩:=jo n za;have HMK:∀W,(Instr.makeSlice 58 (.int .i64 (n:Int)) (.int .i64 (n:Int))).run prog W=.ok (.slice (some ⟨W.heap.size,0,none⟩) n n) (W.alloc (.cells Z 54)):=λW=>(hZ W).1;have aj:=zb (λW=>(hZ W).2);have i0:(0:Int)<=(n:Int):=za;have d1:((n:Int) !=(n:Int))=false:=zG;obtain⟨s,ag⟩:∃s,uD n (sj n e.S) e.S b=s:=⟨_,rfl⟩;have a6:=zb ag;rw [ag] at Q O t⊢;have ai:iC n e s 0=List.replicate n 0:=rfl;obtain⟨Y,an⟩:∃Y,iC n e s=Y:=⟨_,rfl⟩;rw [an] at t ai⊢;have al:=zb (fu h);clear hT h C hM hW hA z aq hZ F ag an;go_enter func28,ntmps28;go_wp2_with fail;(with_reducible refine al.o.mono ?_);rintro eo w2 ⟨rfl,ab⟩;have a:=aj.o w2;rw [<-ai] at a;have j:=zb a;have ao:Below w2.heap.size w2 (w2.alloc (.cells Z 54)):=(qZ _ w2).alloc (qX _) _;have HB:=zb (zc ab ao);have q1:(w2.alloc (.cells Z 54)).cell? ⟨g,0,none⟩=some (.slice A n cA):=(HS.o _ HB.o).blk.cell 0;have J:=ab.size;clear ao ab al a ai;go_wp2_with fail;generalize w2.alloc (.cells Z 54)=W2 at*;generalize w2.heap.size=g5 at*;have d:=(qZ W2.heap.size W2).drew;refine rg (zk q1 zO) (λhHeld=>?_);have j:=zb (j.o.keep d);have HB:=zb (zc HB.o d);clear q1 d;generalize W2.drew=D4 at*;refine tk 0 ?_;refine tk 1 ?_;refine tk 2 ?_;refine tk 3 ?_;refine tk 5 ?_;refine tk 6 ?_;refine tk 7 ?_;refine tk 8 ?_;refine tk 9 ?_;refine tk 12 ?_;refine rc 4 (λKK c=>?_);go_simp;obtain⟨-,-,hL⟩:=(HS.o _ HB.o).lines za;(with_reducible refine(U1 hL a1.o hn).mono ?_);rintro eo w6 ⟨g6,rfl,bf,ar,hb⟩;refine c.out _ _ (Cs.below hHeld hb) (λhHeld=>?_);have j:=zb (j.o.keep hb);have HB:=zb (zc HB.o hb);have HC:=zb ar.rows;clear c KK hb ar bf hL;refine rc 10 (λKK c=>?_);go_simp;obtain⟨-,-,hL⟩:=(HS.o _ HB.o).lines za;(with_reducible refine(VF (HT.o _ HB.o) HC.o hL (HV.o _ HB.o) az.o ak.o hn za h3 za za).mono ?_);rintro eo w7 ⟨g7,rfl,bg,i,hb⟩;have i:yn w7 g7 n (uD n (sj n e.S) e.S b):=i;rw [a6.o] at i;refine c.out _ _ (Cs.below hHeld hb) (λhHeld=>?_);have bj:g5≠g7:=by have:=j.o.lt;omega
 have a:=j.o.keep hb;have hB:=zc HB.o hb;clear c KK hb bg hL HC j HB;refine tk 11 ?_;refine z4 ?_;clear hHeld;go_wp2_with fail
 go_loopg [29] (n+1) (λgg ix wr=>∃(k:Nat),k<=n/\n<gg+k/\ix=.int .i64 k/\yn wr g5 n (Y k)/\yn wr g7 n s/\Below w.heap.size w wr)
 case atStart=>exact⟨0,QQ _,za,rfl,a,i,hB⟩
 case round=>
  clear a i hB;obtain⟨k,hkn,hg,rfl,a,i,hB⟩:=hrel;by_cases hlt:k<n
  ·have d4:decide ((k:Int)<(n:Int))=true:=decide_eq_true za;obtain⟨gA,gB,gD,rfl,rfl,rfl⟩:=a7.o za;have i5:(0:Int)<=(k:Int):=za;have i6:(k:Int)<(n:Int):=za;obtain⟨rr,af⟩:∃x,e.P.getD k 0=x:=⟨_,rfl⟩;have ad:=a4.o k hlt;have ah:=t.o k;rw [af] at ad ah;have i7:(0:Int)<=(rr:Int):=za;have i8:(rr:Int)<(n:Int):=za;obtain⟨ae,bx,Bx,mx,dx,Ex,ux,vx,e9,-,s0,s1,s2,hx⟩:=(wE i).get (qZ _ _) hlt;injection e9 with e9;subst e9;rw [wu] at s0 s1 s2;obtain⟨u,am,-⟩:=zw wr 54 #[.bool bx,.slice Bx mx dx,.slice Ex ux vx];have hB:=zc hB u;have hs:=HS.o _ hB;have q0:=(hs.perm.ready hlt).1;rw [af] at q0;have p1:=hs.blk.cell 1;have p2:=hs.blk.cell 2;obtain⟨br,Br,mr,dr,Er,ur,vr,t0,t1,t2,av⟩:=hs.timeGet hlt;obtain⟨r0,r1,r2⟩:=am.c3;have bb:zd (zm (3*(65+64*K')) (s.getD k 0)):=Q.o.at_ (by rw [O.o];exact hlt);have a9:=zb (ba.o k hlt);have I:=zb av;have HX:=zb (hx.below u);have G:=zb (a.keep u);have H:=zb (i.keep u);have HB:=zb hB;have a8:=zb ah;have bh:=a2.o;have bd:=ay.o gB rfl;have be:=a0.o gD rfl;have bk:=a.lt;have y:g≠g5:=za;have m:gB≠g5:=za;have U:gD≠g5:=za;have o:wr.heap.size≠g5:=za;have N:zd (uE g5 [(⟨g,2,none⟩,Value.slice (some ⟨gD,0,none⟩) n cD),(⟨gD,k,none⟩,.int .i64 (rr:Int)),(⟨g,1,none⟩,.slice (some ⟨gB,0,none⟩) n cB),(⟨gB,k*3,none⟩,.bool br),(⟨gB,k*3+1,none⟩,.slice Br mr dr),(⟨gB,k*3+2,none⟩,.slice Er ur vr),(⟨wr.heap.size,0,none⟩,.bool bx),(⟨wr.heap.size,1,none⟩,.slice Bx mx dx),(⟨wr.heap.size,2,none⟩,.slice Ex ux vx)]):=⟨y,U,y,m,m,m,o,o,o,trivial⟩;clear hs av hx a i hB af ah u am bh bd be bk y m U o;generalize e.T.getD k 0=T at*;generalize s.getD k 0=X at*;go_wp2_with fail;clear s0 s1 s2;generalize wr.alloc (.cells #[.bool bx,.slice Bx mx dx,.slice Ex ux vx] 54)=W8 at*;generalize wr.heap.size=g8 at*;have d:=(qZ W8.heap.size W8).drew;refine rg (zk p2 (zk q0 (zk p1 (zk t0 (zk t1 (zk t2 (zk r0 (zk r1 (zk r2 zO))))))))) (λhHeld=>?_);have I:=zb (I.o.below d);have HX:=zb (HX.o.below d);have G:=zb (G.o.keep d);have H:=zb (H.o.keep d);have HB:=zb (zc HB.o d);clear q0 p1 p2 t0 t1 t2 r0 r1 r2 d;generalize W8.drew=D9 at*;refine tk 0 ?_;refine tk 1 ?_;refine tk 2 ?_;refine tk 3 ?_;refine tk 4 ?_;refine tk 5 ?_;refine tk 6 ?_;refine tk 7 ?_;refine tk 8 ?_;refine tk 9 ?_;refine tk 10 ?_;refine tk 11 ?_;refine tk 12 ?_;refine tk 13 ?_;refine tk 14 ?_;refine tk 15 ?_;refine rc 16 (λKK c=>?_);go_simp;(with_reducible refine(sG (HT.o _ HB.o) I.o HX.o a9.o bb.o za za).mono ?_);rintro eo w3 ⟨b3,A3,n3,c3,E3,k3,f3,rfl,aw,hb⟩;refine c.out _ _ (Cs.below hHeld hb) (λhHeld=>?_);have L:=G.o.keep hb;have ac:=wH.set_ yt L ad aw;rw [<-a8.o] at ac;obtain⟨o0,o1,o2,bl,bo,bm,bp,bn,bq⟩:=L.ready ad (.bool b3) (.slice A3 n3 c3);obtain⟨cs5,ap,V,-⟩:=L.blk;have au:=(((ya.set_ g5 (rr*3) w3 (.bool b3)).trans (ya.set_ g5 (rr*3+1) _ (.slice A3 n3 c3))).trans (ya.set_ g5 (rr*3+2) _ (.slice E3 k3 f3)));have a3:=zb ((H.o.keep hb).turn au ap (tH V) (Ne.symm bj));have a5:=zb ac;have ax:=zb ((((zc HB.o hb).setCell (p:=⟨g5,rr*3,none⟩) J (.bool b3)).setCell (p:=⟨g5,rr*3+1,none⟩) J (.slice A3 n3 c3)).setCell (p:=⟨g5,rr*3+2,none⟩) J (.slice E3 k3 f3));have R:=(((xg.refl g5 w3).set_ (rr*3) (.bool b3)).set_ (rr*3+1) (.slice A3 n3 c3)).set_ (rr*3+2) (.slice E3 k3 f3);have aa:=N.o;clear L ac hb aw G H c KK ap V au;refine tk 17 ?_;refine rc 18 (λKK c=>?_);go_simp;refine c.out _ _ (Cs.far hHeld R aa) (λhHeld=>?_);clear c KK bl bo bm bp bn bq R aa;refine z4 ?_;clear hHeld I HX HB N;go_wp2;go_roundg (n - k)
   case measure=>omega
   case rel=>exact⟨k+1,za,za,by go_num,a5.o,a3.o,ax.o⟩
  ·have bi:n=k:=za;subst bi;have d4:decide ((n:Int)<(n:Int))=false:=zG;have HF:zd (oV w n (Y n) (.returned (.tuple #[.slice (some ⟨g5,0,none⟩) n n,.bool true])) wr):=⟨g5,rfl,J,a,hB⟩;clear a i hB;go_wp2;refine bodyPost_ret (v:=.tuple #[.slice (some ⟨g5,0,none⟩) n n,.bool true]) (by simp [results,results28,go_sem]) rfl ?_;exact HF.o
end
open Go Go.RowKit Go.Proofs.Tryz
set_option maxHeartbeats 16000000
set_option maxRecDepth 100000
section
variable {w:World}{A:ze}{n c K K0:Nat}{M:List (List Rat)}
theorem Rs (hd:¬ zD n (zn M)=0)(hT:zu w)(h:wG w A n c n M)(z:yc K0 M)(hW:xm K M)(hn:n<=64)(hK:67+65*K<=8388608)(a:K+K0<=33554432:=by omega)(d:0<K:=by omega):
  Calls prog 9 #[.agg #[.slice A n c,.int .i64 (n:Int)]] w λeo w'=>∃(g:Nat) (A:ze) (cA:Nat) (B:ze) (cB:Nat) (D:ze) (cD:Nat) (x0 x1 x2:Value) (qs:List Nat),eo=.returned (.tuple #[.pointer (some ⟨g,0,none⟩),.bool true])/\zF w' g n (xt M n) A n cA B n cB D n cD x0 x1 x2 qs/\Below w.heap.size w w':=by
 refine(Yu hT h z hW hn hK a d).mono ?_;rintro eo w' (⟨hg,g,h1,-,⟨A,cA,B,cB,D,cD,x0,x1,x2,qs,hs⟩,hb⟩|⟨h0,-⟩)
 ·exact⟨g,A,cA,B,cB,D,cD,x0,x1,x2,qs,h1,hs,hb⟩
 ·exact absurd h0 hd
theorem Rj (hM:zQ M n n)(hd:zD n (zn M)=0)(hT:zu w)(h:wG w A n c n M)(z:yc K0 M)(hW:xm K M)(hn:n<=64)(hK:67+65*K<=8388608)(a:K+K0<=33554432:=by omega)(d:0<K:=by omega):
  Calls prog 9 #[.agg #[.slice A n c,.int .i64 (n:Int)]] w λeo w'=>eo=.returned (.tuple #[.pointer none,.bool false])/\Below w.heap.size w w':=by
 refine(Yu hT h z hW hn hK a d).mono ?_;rintro eo w' (⟨hg,-⟩|⟨-,h1,hb⟩)
 ·exact absurd hd (NK (fH hM hn hW hg))
 ·exact⟨h1,hb⟩
theorem mK (hM:zQ M n n)(hn:n<=64)(hW:xm K M)(hd:¬ zD n (zn M)=0):y4 n n K M (xt M n):=by
 refine fH hM hn hW ?_;intro c
 induction c using Nat.strongRecOn with
 |_ c ih=>
   intro hc;have h1:=fH hM hn hW (c:=c) λk hk=>ih k hk za;by_cases hb:wI c (xt M c)<n - c
   ·exact hb
   ·exact absurd (SE h1 hc hb) hd
end
open Go Go.RowKit Go.Proofs.Tryz
set_option maxHeartbeats 16000000
set_option maxRecDepth 100000
theorem Vy {A:ze}{m:Nat}{w:World}(h:xj w A n c m M):
  Calls prog 97 #[.agg #[.slice A n c,.int .i64 (m:Int)]] w (km w m n (tj n m M)):=by
 obtain⟨i9,ak,am,ab,ac⟩:=info_parts Y8;have az:n<=64:=h.hn;have ay:m<=64:=h.hm;have HD:=zb (Y4 n m M);have HS:zd (∀k,k<m->(tj n m M).take (k+1)=(tj n m M).take k++[uR n M k]):=λk hk=>Y3 (by
  have hl:=(Y4 n m M).rows;rw [<-N2 hk,qQ,qY za];rfl)
 obtain⟨T,hT⟩:∃T,tj n m M=T:=⟨_,rfl⟩;rw [hT] at HD HS⊢;have HL:zd (T.length=m):=HD.o.rows;obtain⟨ah,ai,an,bz⟩:=z8 w 33 33 #[.slice A n c,.int .i64 (m:Int)] #[.slice none 0 0,.int .i64 0];have HM:=zb (h.keep ah);obtain⟨g0,g1⟩:=ai.c2;have au:=zb ah;have HK:=zb ai;have av:=zb an;unfold km;clear h hT ah ai an;go_enter func97,ntmps97;go_upto_region 1 with fail;generalize (w.alloc (.cells #[.slice A n c,.int .i64 (m:Int)] 33)).alloc (.cells #[.slice none 0 0,.int .i64 0] 33)=W2 at*;go_wp2_with fail;obtain⟨ao,ap,-⟩:=zw W2 33 #[.slice none 0 0,.int .i64 (n:Int)];generalize W2.alloc (.cells #[.slice none 0 0,.int .i64 (n:Int)] 33)=W3 at*;have hB:=ao;have hP:=ap;obtain⟨gp,Z⟩:∃g,W2.heap.size=g:=⟨_,rfl⟩;have aj:W2.heap.size<=gp:=za;obtain⟨mm,al⟩:∃z:Int,(n:Int)=z:=⟨_,rfl⟩;rw [Z] at hP
 first
  |rw [Z]
  |skip
 rw [al] at hP;have aw:=zb al;have hlt0:w.heap.size+1<gp:=za;clear g0 g1 ao ap Z al
 go_loopg [4] (m+1) (λg ix wr=>∃(k:Nat) (v:Value) (vs:List Value),k<=m/\m<g+k/\ix=.int .i64 k/\xe (zZ xd) wr (gp+1) 78 v (T.take k) vs/\zh wr gp 33 #[v,.int .i64 mm]/\Below W2.heap.size W2 wr)
 case atStart=>exact⟨0,_,_,QQ _,za,rfl,xe.nil _ _ _,hP,hB⟩
 case round=>
  clear hB hP;obtain⟨k,v,vs,hkn,hg,rfl,R,hP,hB⟩:=hrel;obtain⟨p0,p1⟩:=(zg hB HK.o).c2;have af:(T.take k).length=k:=by rw [qL,HL.o];omega
  by_cases hlt:k<m
  ·obtain⟨Av,cv,rfl,-⟩:=R.shape af;have ax:decide ((k:Int)<(m:Int))=true:=decide_eq_true za;have aq:decide (k<m)=true:=decide_eq_true hlt;have ag:=zb (HS.o k hlt);have Q:=zb af;have ad:=(qZ wr.heap.size wr).drew;have d:=zb (R.below (yk wf) ad);have HP:=zb (zg ad hP);have HB:=zb (zc hB ad);clear R hP hB ad af;go_upto_region 5 with fail;refine rg (zk p0 (zk p1 zO)) (λhHeld=>?_);clear p0 p1;generalize wr.drew=D at*;refine tk 0 ?_;refine tk 2 ?_;refine tk 3 ?_;refine pZ 1 4 (λKK hK=>?_) (λKK hK=>?_)
   ·obtain⟨q0,q1⟩:=HP.o.c2;go_simp;clear q0 q1;refine hK.out _ _ hHeld (λhHeld=>?_);clear hK KK;refine rc 4 (λKK hK=>?_);go_simp;(with_reducible refine(TD (HM.o.keep HB.o) hlt).mono ?_);rintro e w5 ⟨A5,c5,rfl,aa,hb⟩;refine hK.out _ _ (Cs.below hHeld hb) (λhHeld=>?_);clear hK KK;have d:=zb (d.o.below (yk wf) hb);have HP:=zb (zg hb HP.o);have HB:=zb (zc HB.o hb);have HR:=zb aa;clear hb aa;refine rc 5 (λKK hK=>?_);go_simp;obtain⟨t1,t2,-⟩:=zw w5 78 #[.slice A5 n c5];refine hK.out _ _ (Cs.below hHeld t1) (λhHeld=>?_);clear hK KK;have d:=zb (d.o.below (yk wf) t1);have HP:=zb (zg t1 HP.o);have HB:=zb (zc HB.o t1);have HR:=zb (zZ.below wf HR.o t1);have J:=zb HB.o.size;clear t1 t2;have t:=d.o.own;rw [Q.o] at t;have C:=zb t;have O:=zb d.o.sl;have s:=zb (vI w5 (.slice A5 n c5) 78);have I:=zb HP.o.lt;have G:=zb (λr (h:(Value.slice Av k cv).ownBlock=some r)=>d.o.own.lt r h);have P:zd (∀u ∈(Value.slice none 0 0).cells.toList,xc u):=by intro u hu;simp [Value.cells] at hu;exact⟨_,_,_,hu⟩
    have K:zd (∀u ∈ [Value.slice A5 n c5],xc u):=by intro u hu;simp at hu;exact⟨_,_,_,hu⟩
    have B:zd (∀u ∈ [Value.slice A5 n c5],u.oneCell'=true):=by intro u hu;simp at hu;subst hu;rfl
    clear t;refine rc 6 (λKK hK=>?_);refine lY _ (.tmp 16) (.tmp 20) 31 rfl (gp+1) 78 i9 (.slice none 0 0) 1 24 underlying31 ak am ab ac rfl zf (.slice Av k cv) k vs rfl C.o ⟨w5.heap.size,0,none⟩ 1 1 [.slice A5 n c5] rfl rfl s.o B.o (by unfold maxLen;omega) za I.o O.o P.o K.o ?_;intro v' w8 y a Y E;have j:=xe.grow (n:=k+1) (L:=uR n M k) (yk wf) d.o HR.o (cR n M k) y (by rw [Q.o]) a E;rw [<-ag.o] at j;obtain⟨A8,c8,rfl,-⟩:=j.shape (n:=k+1) (by rw [qL,HL.o];omega);have o:zd (zh w8 gp 33 #[.slice Av k cv,.int .i64 mm]):=uw HP.o a (λe=>by have:=(G.o _ e).1;omega);have F:=zb (HB.o.grown a J.o (λr hr=>by have:=(G.o r hr).1;omega));have N:=zb (j.slot (g:=gp) (i:=0) (u:=(.slice A8 (k+1) c8)) (Nat.lt_succ_self gp) (λh3=>iL h3 o.o (sS _ _ _ _) (o.o.cell 0) (.slice A8 (k+1) c8)));have X:zd (zh (w8.setCell ⟨gp,0,none⟩ (.slice A8 (k+1) c8)) gp 33 #[.slice A8 (k+1) c8,.int .i64 mm]):=o.o.set_ 0 (.slice A8 (k+1) c8);have H:=zb (nR (.slice A8 (k+1) c8) aj F.o);clear j y a Y E d HR C O s G P K B;obtain⟨p0,p1⟩:=(zg F.o HK.o).c2;refine hK.out _ _ (zk p0 (zk p1 zO)) (λhHeld=>?_);clear hK KK p0 p1;obtain⟨S,U⟩:=o.o.c2;have V:=o.o.frozen 0;obtain⟨p0,p1⟩:=(zg H.o HK.o).c2;refine tk 7 ?_;refine rc 8 (λKK hK=>?_);go_simp;refine hK.out _ _ (zk p0 (zk p1 zO)) (λhHeld=>?_);clear hK KK;refine z4 ?_;clear hHeld p0 p1 S U V o F HP HB I J;go_wp2;go_roundg (m - k)
    case measure=>omega
    case rel=>exact⟨k+1,_,_,za,za,by go_num,N.o,X.o,H.o⟩
   ·go_simp;(with_reducible refine(TD (HM.o.keep HB.o) hlt).mono ?_);rintro e w5 ⟨A5,c5,rfl,aa,hb⟩;refine hK.out _ _ (Cs.below hHeld hb) (λhHeld=>?_);clear hK KK;have d:=zb (d.o.below (yk wf) hb);have HP:=zb (zg hb HP.o);have HB:=zb (zc HB.o hb);have HR:=zb aa;clear hb aa;refine pZ 1 5 (λKK hK=>?_) (λKK hK=>?_)
    ·obtain⟨q0,q1⟩:=HP.o.c2;go_simp;clear q0 q1;refine hK.out _ _ hHeld (λhHeld=>?_);clear hK KK;refine rc 5 (λKK hK=>?_);go_simp;obtain⟨t1,t2,-⟩:=zw w5 78 #[.slice A5 n c5];refine hK.out _ _ (Cs.below hHeld t1) (λhHeld=>?_);clear hK KK;have d:=zb (d.o.below (yk wf) t1);have HP:=zb (zg t1 HP.o);have HB:=zb (zc HB.o t1);have HR:=zb (zZ.below wf HR.o t1);have J:=zb HB.o.size;clear t1 t2;have t:=d.o.own;rw [Q.o] at t;have C:=zb t;have O:=zb d.o.sl;have s:=zb (vI w5 (.slice A5 n c5) 78);have I:=zb HP.o.lt;have G:=zb (λr (h:(Value.slice Av k cv).ownBlock=some r)=>d.o.own.lt r h);have P:zd (∀u ∈(Value.slice none 0 0).cells.toList,xc u):=by intro u hu;simp [Value.cells] at hu;exact⟨_,_,_,hu⟩
     have K:zd (∀u ∈ [Value.slice A5 n c5],xc u):=by intro u hu;simp at hu;exact⟨_,_,_,hu⟩
     have B:zd (∀u ∈ [Value.slice A5 n c5],u.oneCell'=true):=by intro u hu;simp at hu;subst hu;rfl
     clear t;refine rc 6 (λKK hK=>?_);refine lY _ (.tmp 16) (.tmp 20) 31 rfl (gp+1) 78 i9 (.slice none 0 0) 1 24 underlying31 ak am ab ac rfl zf (.slice Av k cv) k vs rfl C.o ⟨w5.heap.size,0,none⟩ 1 1 [.slice A5 n c5] rfl rfl s.o B.o (by unfold maxLen;omega) za I.o O.o P.o K.o ?_;intro v' w8 y a Y E;have j:=xe.grow (n:=k+1) (L:=uR n M k) (yk wf) d.o HR.o (cR n M k) y (by rw [Q.o]) a E;rw [<-ag.o] at j;obtain⟨A8,c8,rfl,-⟩:=j.shape (n:=k+1) (by rw [qL,HL.o];omega);have o:zd (zh w8 gp 33 #[.slice Av k cv,.int .i64 mm]):=uw HP.o a (λe=>by have:=(G.o _ e).1;omega);have F:=zb (HB.o.grown a J.o (λr hr=>by have:=(G.o r hr).1;omega));have N:=zb (j.slot (g:=gp) (i:=0) (u:=(.slice A8 (k+1) c8)) (Nat.lt_succ_self gp) (λh3=>iL h3 o.o (sS _ _ _ _) (o.o.cell 0) (.slice A8 (k+1) c8)));have X:zd (zh (w8.setCell ⟨gp,0,none⟩ (.slice A8 (k+1) c8)) gp 33 #[.slice A8 (k+1) c8,.int .i64 mm]):=o.o.set_ 0 (.slice A8 (k+1) c8);have H:=zb (nR (.slice A8 (k+1) c8) aj F.o);clear j y a Y E d HR C O s G P K B;obtain⟨p0,p1⟩:=(zg F.o HK.o).c2;refine hK.out _ _ (zk p0 (zk p1 zO)) (λhHeld=>?_);clear hK KK p0 p1;obtain⟨S,U⟩:=o.o.c2;have V:=o.o.frozen 0;obtain⟨p0,p1⟩:=(zg H.o HK.o).c2;refine tk 7 ?_;refine rc 8 (λKK hK=>?_);go_simp;refine hK.out _ _ (zk p0 (zk p1 zO)) (λhHeld=>?_);clear hK KK;refine z4 ?_;clear hHeld p0 p1 S U V o F HP HB I J;go_wp2;go_roundg (m - k)
     case measure=>omega
     case rel=>exact⟨k+1,_,_,za,za,by go_num,N.o,X.o,H.o⟩
    ·go_simp;obtain⟨t1,t2,-⟩:=zw w5 78 #[.slice A5 n c5];refine hK.out _ _ (Cs.below hHeld t1) (λhHeld=>?_);clear hK KK;have d:=zb (d.o.below (yk wf) t1);have HP:=zb (zg t1 HP.o);have HB:=zb (zc HB.o t1);have HR:=zb (zZ.below wf HR.o t1);have J:=zb HB.o.size;clear t1 t2;refine rc 1 (λKK hK=>?_);obtain⟨q0,q1⟩:=HP.o.c2;go_simp;clear q0 q1;refine hK.out _ _ hHeld (λhHeld=>?_);clear hK KK;have t:=d.o.own;rw [Q.o] at t;have C:=zb t;have O:=zb d.o.sl;have s:=zb (vI w5 (.slice A5 n c5) 78);have I:=zb HP.o.lt;have G:=zb (λr (h:(Value.slice Av k cv).ownBlock=some r)=>d.o.own.lt r h);have P:zd (∀u ∈(Value.slice none 0 0).cells.toList,xc u):=by intro u hu;simp [Value.cells] at hu;exact⟨_,_,_,hu⟩
     have K:zd (∀u ∈ [Value.slice A5 n c5],xc u):=by intro u hu;simp at hu;exact⟨_,_,_,hu⟩
     have B:zd (∀u ∈ [Value.slice A5 n c5],u.oneCell'=true):=by intro u hu;simp at hu;subst hu;rfl
     clear t;refine rc 6 (λKK hK=>?_);refine lY _ (.tmp 16) (.tmp 20) 31 rfl (gp+1) 78 i9 (.slice none 0 0) 1 24 underlying31 ak am ab ac rfl zf (.slice Av k cv) k vs rfl C.o ⟨w5.heap.size,0,none⟩ 1 1 [.slice A5 n c5] rfl rfl s.o B.o (by unfold maxLen;omega) za I.o O.o P.o K.o ?_;intro v' w8 y a Y E;have j:=xe.grow (n:=k+1) (L:=uR n M k) (yk wf) d.o HR.o (cR n M k) y (by rw [Q.o]) a E;rw [<-ag.o] at j;obtain⟨A8,c8,rfl,-⟩:=j.shape (n:=k+1) (by rw [qL,HL.o];omega);have o:zd (zh w8 gp 33 #[.slice Av k cv,.int .i64 mm]):=uw HP.o a (λe=>by have:=(G.o _ e).1;omega);have F:=zb (HB.o.grown a J.o (λr hr=>by have:=(G.o r hr).1;omega));have N:=zb (j.slot (g:=gp) (i:=0) (u:=(.slice A8 (k+1) c8)) (Nat.lt_succ_self gp) (λh3=>iL h3 o.o (sS _ _ _ _) (o.o.cell 0) (.slice A8 (k+1) c8)));have X:zd (zh (w8.setCell ⟨gp,0,none⟩ (.slice A8 (k+1) c8)) gp 33 #[.slice A8 (k+1) c8,.int .i64 mm]):=o.o.set_ 0 (.slice A8 (k+1) c8);have H:=zb (nR (.slice A8 (k+1) c8) aj F.o);clear j y a Y E d HR C O s G P K B;obtain⟨p0,p1⟩:=(zg F.o HK.o).c2;refine hK.out _ _ (zk p0 (zk p1 zO)) (λhHeld=>?_);clear hK KK p0 p1;obtain⟨S,U⟩:=o.o.c2;have V:=o.o.frozen 0;obtain⟨p0,p1⟩:=(zg H.o HK.o).c2;refine tk 7 ?_;refine rc 8 (λKK hK=>?_);go_simp;refine hK.out _ _ (zk p0 (zk p1 zO)) (λhHeld=>?_);clear hK KK;refine z4 ?_;clear hHeld p0 p1 S U V o F HP HB I J;go_wp2;go_roundg (m - k)
     case measure=>omega
     case rel=>exact⟨k+1,_,_,za,za,by go_num,N.o,X.o,H.o⟩
  ·have hk:k=m:=za;subst hk;have ax:decide ((k:Int)<(k:Int))=false:=zG;have aq:decide (k<k)=false:=zG;rw [qV (by rw [HL.o];exact qX _)] at R;obtain⟨A7,c7,rfl,ar⟩:=R.refm HD.o ay az;obtain⟨q0,q1⟩:=hP.c2;have ae:=zg hB av.o;obtain⟨S,V,U,sf1⟩:=vh ae (.slice A7 k c7);obtain⟨r0,r1⟩:=(vg ae (.slice A7 k c7) (.int .i64 (n:Int))).c2;have HG:=zb (jW ar ae (zc au.o hB) za);unfold km at HG;obtain rfl:=aw.o;clear R ar ae hB hP af;go_wp2;refine bodyPost_ret (v:=.agg #[.slice A7 k c7,.int .i64 (n:Int)]) (by simp [results,results97,go_sem,r0,r1]) rfl ?_;exact HG.o
