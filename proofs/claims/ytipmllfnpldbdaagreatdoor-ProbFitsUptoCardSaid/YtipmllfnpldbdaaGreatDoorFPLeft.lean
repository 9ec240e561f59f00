/- What this claim leans on. -/
import Derived.Test.YtipmllfnpldbdaaGreatDoorFUArgs2
set_option linter.unusedVariables false
set_option linter.unusedSimpArgs false
namespace Go.Proofs.YtipmllfnpldbdaaGreatDoor
open Go Go.RowKit Go.Proofs.Tryz
set_option maxHeartbeats 16000000
set_option maxRecDepth 100000
set_option maxHeartbeats 4000000
def wJ (zs:List Int):Array Value:=(zs.map λz=>Value.int .i64 z).toArray
theorem fW (zs:List Int):(wJ zs).size=zs.length:=by simp [wJ]
theorem ia (zs:List Int)(i:Nat)(z:Int):(wJ zs).setIfInBounds i (.int .i64 z)=wJ (zs.set i z):=by
 unfold wJ;rw [qK,List.map_set]
theorem jZ (zs:List Int){i:Nat}(hi:i<zs.length):(wJ zs)[i]?=some (.int .i64 (zs.getD i 0)):=by
 unfold wJ;rw [qW,QM,qQ,qZ hi];rfl
def xd (ps:List PR)(c:Nat):Nat:=c+ps.countP λp=>decide (p.kd≠3)
def sR (ps:List PR)(c j:Nat):Int:=if (ps.getD j zL).kd=3 then -1 else(xd (ps.take j) c:Int)
def vw (ps:List PR)(c:Nat):List Int:=(List.range ps.length).map (sR ps c)
theorem mm (ps:List PR)(c:Nat):(vw ps c).length=ps.length:=by simp [vw]
theorem eN (ps:List PR)(c:Nat){j:Nat}(hj:j<ps.length):(vw ps c)[j]?=some (sR ps c j):=by
 unfold vw;rw [QM,XW hj];rfl
theorem fX (ps:List PR)(c:Nat){j:Nat}(hj:j<ps.length):(vw ps c).getD j 0=sR ps c j:=by
 rw [qQ,eN ps c hj];rfl
theorem fu (ps:List PR)(c:Nat){j:Nat}(hj:j<ps.length):xd (ps.take (j+1)) c=xd (ps.take j) c+(if (ps.getD j zL).kd=3 then 0 else 1):=by
 unfold xd;rw [QY hj,List.countP_append,qQ,qZ hj,List.countP_singleton];show _=_+(if (ps[j]).kd=3 then 0 else 1);by_cases h:(ps[j]).kd=3<;>simp [h]<;>omega
theorem jX (ps:List PR)(c:Nat):c<=xd ps c/\xd ps c<=c+ps.length:=⟨Nat.le_add_right _ _,YS List.countP_le_length _⟩
theorem jP (ps:List PR)(c j:Nat):xd (ps.take j) c<=xd ps c:=by
 unfold xd;exact YS (List.Sublist.countP_le (List.take_sublist j ps)) _
def ez (w:World)(n:Nat)(zs:List Int)(cols:Nat)(e:Ending)(w':World):Prop:=∃g,e=.returned (.tuple #[.slice (some ⟨g,0,none⟩) n n,.int .i64 (cols:Int)])/\w.heap.size<=g/\zi w' g 3 (wJ zs)/\Below w.heap.size w w'
theorem WW (n:Nat)(hn:n<=1099511627776):∀W:World,(Instr.makeSlice 33 (.int .i64 (n:Int)) (.int .i64 (n:Int))).run prog W=.ok (.slice (some ⟨W.heap.size,0,none⟩) n n) (W.alloc (.cells (wJ (List.replicate n 0)) 3)):=by
 obtain⟨i0,a,d,g,j⟩:=info_parts lc;intro W;have h:=uw (P:=prog) _ _ i0 _ underlying33 a d .i64 .i64 n n (qX _) (by rw [j];omega) za W;rw [g,xO] at h;have e:madeCells (Value.cells (.int .i64 0)) n=wJ (List.replicate n 0):=by
  apply Array.ext
  ·rw [size_madeCells,fW,QB]
  ·intro i h1 h2;rw [size_madeCells] at h1;have a1:=nv (Value.cells (.int .i64 0)) n i h1;have a2:=jZ (List.replicate n 0) (i:=i) (by simpa using h1);rw [QQ (by rw [size_madeCells];exact h1)] at a1;rw [QQ h2] at a2;injection a1 with a1;injection a2 with a2;rw [a1,a2];simp [Value.cells,qQ,h1,xD]
 rw [e] at h;exact h
theorem We {P:PB}{D:zf}{k d9:Nat}{A:zf}{n q:Nat}{w:World}(h:sO w D k d9 A n q P)(hn:n<=1000000:=by omega)(hk:k<=1000000:=by omega):
  Calls prog 44 #[.agg #[.slice D k d9,.slice A n q]] w (ez w n (vw P.rows k) (xd P.rows k)):=by
 have O:=h.rows.len;obtain⟨X,L,bz⟩:=zF w 42 #[.slice D k d9,.slice A n q];have U:Below w.heap.size w ((w.alloc (.cells #[.slice D k d9,.slice A n q] 42)).alloc (.cells (wJ (List.replicate n 0)) 3)):=X.alloc zD _;have V:=L.alloc (.cells (wJ (List.replicate n 0)) 3);have K:=zi.new (w.alloc (.cells #[.slice D k d9,.slice A n q] 42)) 3 (wJ (List.replicate n 0));have e1:(w.alloc (.cells #[.slice D k d9,.slice A n q] 42)).heap.size=w.heap.size+1:=zD;rw [e1] at K;obtain⟨g0,g1⟩:=L.c2;obtain⟨q0,q1⟩:=V.c2;have ae:=WW n za;have HB:=zd U;have HM:=zd K;have HW:=zd (λW (hb:Below w.heap.size w W) (i:Nat) (hi:i<n)=>h.rows.get hb hi);have x:=zd O;have i0:(0:Int)<=(n:Int):=za;have HC:=zd (λj=>jP P.rows k j);have S:=zd (jX P.rows k);rw [O] at S;have hc9:=S.o.2;clear h X L bz O U V K e1;generalize P.rows=ps at*;clear P;have ab:zg (xd (ps.take 0) k=k):=rfl;have aa:zg (xd (ps.take n) k=xd ps k):=by show _=_;rw [<-x.o,List.take_length]
 go_enter func44,ntmps44;go_wp2_with fail;clear g0 g1 q0 q1 ae;obtain⟨gi,M⟩:∃g,w.heap.size+1=g:=⟨_,rfl⟩;rw [M] at HM⊢;generalize (w.alloc (.cells #[.slice D k d9,.slice A n q] 42)).alloc (.cells (wJ (List.replicate n 0)) 3)=W1 at*;have T:=zd M;clear M
 go_loopg [5,18] (n+1) (λg cx ix wr=>∃(j:Nat),j<=n/\n<g+j/\ix=.int .i64 j/\cx=.int .i64 (xd (ps.take j) k)/\Below w.heap.size w wr/\zg (zi wr gi 3 (wJ (wF 0 (vw ps k) n j))))
 case atStart=>exact⟨0,QE _,za,rfl,by rw [ab.o],HB.o,by show zi _ _ _ _;rw [pK];exact HM.o⟩
 case round=>
  clear HB HM;obtain⟨j,hjn,hg,rfl,rfl,hB,HM⟩:=hrel;by_cases hlt:j<n
  ·obtain⟨ad,rfl,-,C,c,b,B,m,e9,E,u,v,c0,c1,c2,c3,c4,h5,-,h7⟩:=HW.o _ hB j hlt;have ac:decide ((j:Int)<(n:Int))=true:=decide_eq_true za;have i1:(0:Int)<=(j:Int):=za;have i2:(j:Int)<(n:Int):=za;obtain⟨st,d3,d4⟩:=zF wr 83 #[.slice C (ps.getD j zL).co.length c,.int .i64 (ps.getD j zL).kd,.bool b,.slice B m e9,.slice E u v];have hm:=zj st HM.o;have G:gi<wr.heap.size:=HM.o.lt;have y:gi≠wr.heap.size:=za;have F:j<ps.length:=by have:=x.o;omega
   have Y:(wJ (wF 0 (vw ps k) n j)).size=n:=by
    rw [fW];unfold wF;rw [qB,QX,QB,mm,x.o];omega
   have s0:∃uu:Value,(wr.alloc (.cells #[.slice C (ps.getD j zL).co.length c,.int .i64 (ps.getD j zL).kd,.bool b,.slice B m e9,.slice E u v] 83)).cell? ⟨gi,j,none⟩=some uu:=⟨_,(hm.cell j).trans (QQ za)⟩;obtain⟨s0,hs0⟩:=s0;have hs1:=hm.frozen j;have d:=hm.set_ j (.int .i64 (-1));have Z:=zd (zi.far (p:=⟨gi,j,none⟩) d3 (by simpa using y.symm) (.int .i64 (-1)));obtain⟨p0,p1,p2,p3,p4⟩:=Z.o.c5;have z:=zd (ze hB st);have R:w.heap.size<=gi:=by have:=T.o;omega
   have t:=fu ps k F;have N:sR ps k j=if (ps.getD j zL).kd=3 then -1 else(xd (ps.take j) k:Int):=rfl
   have a:=pM 0 (vw ps k) n j (by rw [mm];exact x.o) hlt _ (eN ps k F);rw [N] at a;clear h5 h7;generalize (ps.getD j zL).co.length=n3 at*;generalize (ps.getD j zL).kd=kd at*;have hcj:=HC.o j;have hcj2:=(jX (ps.take j) k).1;by_cases k3:kd=3
   ·rw [if_pos k3] at a t;have t3:(kd !=3)=false:=by simp [k3]
    rw [ia,a] at d;have J:=zd d;have H:=zd (zG (p:=⟨gi,j,none⟩) (.int .i64 (-1)) R z.o);have I:=zd t;clear hB st d3 d4 F Y hm d N a k3 HM z t y G;go_wp2;go_roundg (n - j)
    case measure=>omega
    case rel=>exact⟨j+1,za,za,by go_num,by rw [I.o];rfl,H.o,J⟩
   ·rw [if_neg k3] at a t;have t3:(kd !=3)=true:=by simp [k3]
    generalize xd (ps.take j) k=cj at*;have hs2:=(d.cell j).trans (QO za);have hs3:=d.frozen j;have Q:=d.set_ j (.int .i64 (cj:Int));rw [ia,ia,List.set_set,a] at Q;have J:=zd Q;have H:=zd (zG (p:=⟨gi,j,none⟩) (.int .i64 (cj:Int)) R (zG (p:=⟨gi,j,none⟩) (.int .i64 (-1)) R z.o));have I:=zd t;clear hB st d3 d4 F Y hm d Q N a k3 HM z t y G;go_wp2;go_roundg (n - j)
    case measure=>omega
    case rel=>exact⟨j+1,za,za,by go_num,by rw [I.o];go_num,H.o,J⟩
  ·obtain rfl:j=n:=za;have ac:decide ((j:Int)<(j:Int))=false:=zD;have HF:zg (ez w j (vw ps k) (xd ps k) (.returned (.tuple #[.slice (some ⟨gi,0,none⟩) j j,.int .i64 (xd (ps.take j) k:Int)])) wr):=by
    refine⟨gi,by rw [aa.o],by have:=T.o;omega,?_,hB⟩;have h1:=HM.o;rw [pL 0 _ j (by rw [mm];exact x.o)] at h1;exact h1
   clear hB HM;go_wp2
   go_ret2
   exact HF.o
theorem eP (z:Int)(w:World):Calls prog 105 #[.int .i64 z] w (λe w'=>e=.returned (.bool false)/\w=w'):=by
 have h1:(z !=z)=false:=zD;go_enter func105,ntmps105;go_wp2;go_ret;exact⟨rfl,rfl⟩
theorem Zn (n m:Nat)(w:World):Calls prog 87 #[.int .i64 (n:Int),.int .i64 (m:Int)] w (λe w'=>e=.returned (.int .i64 (u7 n m))/\w=w'):=by
 have H1:=zd (eP (n:Int) w);have H2:=zd (eP (m:Int) w);unfold u7;by_cases h1:n<m
 ·have hd:decide ((n:Int)<(m:Int))=true:=decide_eq_true za;have a:decide (n<m)=true:=decide_eq_true za;rw [if_pos h1];go_enter func87,ntmps87;go_wp2_with fail;refine H1.o.mono ?_;rintro e w1 ⟨rfl,rfl⟩;go_wp2_with fail;refine H2.o.mono ?_;rintro e w1 ⟨rfl,rfl⟩;go_wp2;go_ret;exact⟨rfl,rfl⟩
 ·have hd:decide ((n:Int)<(m:Int))=false:=decide_eq_false za;have a:decide (n<m)=false:=decide_eq_false za;rw [if_neg h1];by_cases h2:n=m
  ·rw [if_pos h2];have d:decide ((m:Int)<(n:Int))=false:=decide_eq_false za;have g:decide ((n:Int)>(m:Int))=false:=decide_eq_false za;have h:decide (m<n)=false:=decide_eq_false za;clear h1 h2;go_enter func87,ntmps87;go_wp2_with fail;refine H1.o.mono ?_;rintro e w1 ⟨rfl,rfl⟩;go_wp2_with fail;refine H2.o.mono ?_;rintro e w1 ⟨rfl,rfl⟩;go_wp2;go_ret;exact⟨rfl,rfl⟩
  ·rw [if_neg h2];have d:decide ((m:Int)<(n:Int))=true:=decide_eq_true za;have g:decide ((n:Int)>(m:Int))=true:=decide_eq_true za;have h:decide (m<n)=true:=decide_eq_true za;clear h1 h2;go_enter func87,ntmps87;go_wp2_with fail;refine H1.o.mono ?_;rintro e w1 ⟨rfl,rfl⟩;go_wp2_with fail;refine H2.o.mono ?_;rintro e w1 ⟨rfl,rfl⟩;go_wp2;go_ret;exact⟨rfl,rfl⟩
section
variable {K K':Nat}{xs ys:List Rat}{A B:zf}{n n' c d:Nat}{w:World}
theorem Vl {z:Int}(hz:wK xs ys=z)(hT:zu w)(ha:zy w A n c xs)(hb:zy w B n' d ys)(hx:zH K xs)(hy:zH K' ys)(hn:n<=1073741824:=by omega)(hn':n'<=1073741824:=by omega)(hK:K<=67108864:=by omega)(J:K'<=67108864:=by omega):
  Calls prog 75 #[.slice A n c,.slice B n' d] w (wI w z):=by
 have P:=ha.len;have Q:=hb.len;have M:=zd P;have O:=zd Q;have HZ:=zd hz;have H:zg (∀i,i<n->zp K (xs.getD i 0)):=λi hi=>hx.at_ za;have I:zg (∀i,i<n'->zp K' (ys.getD i 0)):=λi hi=>hy.at_ za;unfold wI;have HA:=zd ha;have V:=zd hb;have HT:=zm w (λw' hb=>hT.on hb);clear hT ha hb hx hy P Q hz;have hB:=qY w.heap.size w;have i0:(0:Int)<=(n:Int):=za;obtain⟨N,hN⟩:∃N,min n n'=N:=⟨_,rfl⟩;have hNn:N<=n:=za;have hNm:N<=n':=za;have HN:=zd hN;have R:min (n:Int) (n':Int)=(N:Int):=za;have S:(if (n':Int)<(n:Int) then(n':Int) else(n:Int))=(N:Int):=by split<;>omega
 have T:(if n'<n then(n':Int) else(n:Int))=(N:Int):=by split<;>omega
 clear hN;go_enter func75,ntmps75;go_wp2_with fail;clear R S T
 go_loopg [11] (N+1) (λg ix wr=>∃(k:Nat),k<=N/\N<g+k/\ix=.int .i64 k/\zg (wK (xs.drop k) (ys.drop k)=z)/\Below w.heap.size w wr)
 case atStart=>exact⟨0,QE _,za,rfl,HZ,hB⟩
 case round=>
  clear hB;obtain⟨k,hkn,hg,rfl,L,hB⟩:=hrel;by_cases hlt:k<N
  ·have m:k<n:=za;have j:k<n':=za;obtain⟨ad,b1,B1,m1,d1,E1,u1,v1,rfl,-,v,x,y,hx⟩:=HA.o.get hB m;obtain⟨ae,b2,B2,m2,d2,E2,u2,v2,rfl,-,C,D,E,hy⟩:=V.o.get hB j;have aa:decide ((k:Int)<(N:Int))=true:=decide_eq_true za;have i1:(0:Int)<=(k:Int):=za;have i2:(k:Int)<(n:Int):=za;have i3:(k:Int)<(n':Int):=za;have HX:=zd hx;have HY:=zd hy;have t:=zd hB;have F:k<xs.length:=by have:=M.o;omega
   have G:k<ys.length:=by have:=O.o;omega
   clear hx hy hB;by_cases h0:xs.getD k 0=ys.getD k 0
   ·have HQ:=zd (decide_eq_true h0);have Z:zg (wK (xs.drop (k+1)) (ys.drop (k+1))=z):=by
     show _=_;rw [<-aP F G h0];exact L.o
    clear h0 F G;go_wp2_with fail;have a:=(qY wr.heap.size wr).drew;refine rg (zk v (zk x (zk y (zk C (zk D (zk E zP)))))) (λhHeld=>?_);refine tk 0 ?_;refine tk 1 ?_;refine tk 2 ?_;refine tk 3 ?_;refine tk 4 ?_;refine tk 5 ?_;refine tk 6 ?_;refine tk 7 ?_;refine rc 8 (λKK h=>?_);go_simp;(with_reducible refine(jm HQ.o (HT.o _ (ze t.o a)) (HX.o.below a) (HY.o.below a) (H.o k m) (I.o k j) hK J).mono ?_);rintro e wa ⟨rfl,hb⟩;have a:=ze a hb;refine h.out _ _ (Cs.below hHeld hb) (λhHeld=>?_);clear h KK hb;refine tk 9 ?_;refine yb ?_;have u:=zd (ze t.o a);clear hHeld a v x y C D E HX HY t;go_wp2;go_roundg (N - k)
    case measure=>omega
    case rel=>exact⟨k+1,za,za,by go_num,Z,u.o⟩
   ·have HQ:=zd (decide_eq_false h0);have HF:zg (xp (xs.getD k 0) (ys.getD k 0)=z):=by
     show _=_;rw [<-aS F G h0];exact L.o
    clear h0 F G;go_wp2_with fail;have a:=(qY wr.heap.size wr).drew;refine rg (zk v (zk x (zk y (zk C (zk D (zk E zP)))))) (λhHeld=>?_);refine tk 0 ?_;refine tk 1 ?_;refine tk 2 ?_;refine tk 3 ?_;refine tk 4 ?_;refine tk 5 ?_;refine tk 6 ?_;refine tk 7 ?_;refine rc 8 (λKK h=>?_);go_simp;(with_reducible refine(jm HQ.o (HT.o _ (ze t.o a)) (HX.o.below a) (HY.o.below a) (H.o k m) (I.o k j) hK J).mono ?_);rintro e wa ⟨rfl,hb⟩;have a:=ze a hb;refine h.out _ _ (Cs.below hHeld hb) (λhHeld=>?_);clear h KK hb;refine tk 9 ?_;refine yb ?_;have u:=zd (ze t.o a);have X:=zd (HX.o.below a);have Y:=zd (HY.o.below a);obtain⟨c0,c1,c2,e0,e1,e2,-⟩:=hHeld;clear a v x y C D E HX HY t;go_wp2_with fail;have a:=(qY wa.heap.size wa).drew;refine rg (zk c0 (zk c1 (zk c2 (zk e0 (zk e1 (zk e2 zP)))))) (λhHeld=>?_);refine tk 0 ?_;refine tk 1 ?_;refine tk 2 ?_;refine tk 3 ?_;refine tk 4 ?_;refine tk 5 ?_;refine tk 6 ?_;refine tk 7 ?_;refine rc 8 (λKK h=>?_);go_simp;(with_reducible refine(vN HF.o (oe (HT.o _ (ze u.o a)) (X.o.below a) (Y.o.below a) (H.o k m) (I.o k j) hK J)).mono ?_);rintro e wb ⟨rfl,hb⟩;have a:=ze a hb;refine h.out _ _ (Cs.below hHeld hb) (λhHeld=>?_);clear h KK hb;refine tk 9 ?_;refine yb ?_;have U:=zd (ze u.o a);clear hHeld a c0 c1 c2 e0 e1 e2;go_wp2;go_ret;exact⟨rfl,U.o⟩
  ·have hk:k=N:=za;subst hk;have aa:decide ((k:Int)<(k:Int))=false:=zD;have HF:zg (u7 n n'=z):=by
    have h1:=M.o;have h2:=O.o;have h3:=HN.o;have h4:=L.o;rw [tc (by rw [h1,h2];exact h3.symm),h1,h2] at h4;exact h4
   have u:=zd hB;have H1:=zd (Zn n n' wr);rw [HF.o] at H1;clear hB;go_wp2_with fail;refine H1.o.mono ?_;rintro e w1 ⟨rfl,rfl⟩;go_wp2;go_ret;exact⟨rfl,u.o⟩
theorem Xs {t:Bool}(e:decide (xs=ys)=t)(hT:zu w)(ha:zy w A n c xs)(hb:zy w B n' d ys)(hx:zH K xs)(hy:zH K' ys)(hn:n<=1073741824:=by omega)(g:n'<=1073741824:=by omega)(hK:K<=67108864:=by omega)(a:K'<=67108864:=by omega):
  Calls prog 34 #[.slice A n c,.slice B n' d] w (λe w'=>e=.returned (.bool t)/\Below w.heap.size w w'):=by
 obtain⟨z,hz⟩:∃z,wK xs ys=z:=⟨_,rfl⟩;have H:=zd (Vl hz hT ha hb hx hy hn g hK a);have ht:(z==0)=t:=by
  rw [<-e,<-hz];by_cases h:xs=ys
  ·rw [decide_eq_true h,(iB xs ys).2 h];rfl
  ·rw [decide_eq_false h,beq_eq_false_iff_ne];exact λh9=>h ((iB xs ys).1 h9)
 clear hz hT ha hb hx hy e;have HE:=zd ht;clear ht;go_enter func34,ntmps34;go_wp2_with fail;refine H.o.mono ?_;rintro e w1 ⟨rfl,hb⟩;go_wp2;go_ret;exact⟨by rw [<-HE.o];rfl,hb⟩
end
