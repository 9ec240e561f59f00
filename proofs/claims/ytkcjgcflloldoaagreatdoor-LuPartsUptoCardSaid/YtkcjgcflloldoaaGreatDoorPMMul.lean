/- What this claim leans on. -/
import Derived.Test.YtkcjgcflloldoaaGreatDoorPMGrid
set_option linter.unusedVariables false
set_option linter.unusedSimpArgs false
namespace Go.Proofs.YtkcjgcflloldoaaGreatDoor
open Go Go.RowKit Go.Proofs.Tryz
set_option maxHeartbeats 16000000
set_option maxRecDepth 100000
variable {M:List (List Rat)}{zs:List Int}{ld:List Nat}{vs:List Value}{K a c i lo m n:Nat}{t:TypeId}{v:Value}{w w':World}{A:ze}
section
variable {K K':Nat}{w:World}
variable {A:ze}{n c m:Nat}{MM:List (List Rat)}
def aN (w:World)(n:Nat)(Ls:List (List Rat))(e:Ending)(w':World):Prop:=∃g,e=.returned (.slice (some ⟨g,0,none⟩) n n)/\w.heap.size<=g/\wK (zZ zp) w' 58 g n Ls/\Below w.heap.size w w'
variable {V:ze}{k cv:Nat}{xs:List Rat}
end
theorem U5 (z:Int)(w:World):Calls prog 149 #[.int .i64 z] w (λe w'=>e=.returned (.bool false)/\w=w'):=by
 have h1:(z !=z)=false:=zG;go_enter func149,ntmps149;go_wp2;go_ret;exact⟨rfl,rfl⟩
theorem Qt (n m:Nat)(w:World):Calls prog 122 #[.int .i64 (n:Int),.int .i64 (m:Int)] w (λe w'=>e=.returned (.int .i64 (qb n m))/\w=w'):=by
 have H1:=zb (U5 (n:Int) w);have H2:=zb (U5 (m:Int) w);unfold qb;by_cases h1:n<m
 ·have hd:decide ((n:Int)<(m:Int))=true:=decide_eq_true za;have a:decide (n<m)=true:=decide_eq_true za;rw [if_pos h1];go_enter func122,ntmps122;go_wp2_with fail;refine H1.o.mono ?_;rintro e w1 ⟨rfl,rfl⟩;go_wp2_with fail;refine H2.o.mono ?_;rintro e w1 ⟨rfl,rfl⟩;go_wp2;go_ret;exact⟨rfl,rfl⟩
 ·have hd:decide ((n:Int)<(m:Int))=false:=decide_eq_false za;have a:decide (n<m)=false:=decide_eq_false za;rw [if_neg h1];by_cases h2:n=m
  ·rw [if_pos h2];have c:decide ((m:Int)<(n:Int))=false:=decide_eq_false za;have d:decide ((n:Int)>(m:Int))=false:=decide_eq_false za;have g:decide (m<n)=false:=decide_eq_false za;clear h1 h2;go_enter func122,ntmps122;go_wp2_with fail;refine H1.o.mono ?_;rintro e w1 ⟨rfl,rfl⟩;go_wp2_with fail;refine H2.o.mono ?_;rintro e w1 ⟨rfl,rfl⟩;go_wp2;go_ret;exact⟨rfl,rfl⟩
  ·rw [if_neg h2];have c:decide ((m:Int)<(n:Int))=true:=decide_eq_true za;have d:decide ((n:Int)>(m:Int))=true:=decide_eq_true za;have g:decide (m<n)=true:=decide_eq_true za;clear h1 h2;go_enter func122,ntmps122;go_wp2_with fail;refine H1.o.mono ?_;rintro e w1 ⟨rfl,rfl⟩;go_wp2_with fail;refine H2.o.mono ?_;rintro e w1 ⟨rfl,rfl⟩;go_wp2;go_ret;exact⟨rfl,rfl⟩
section
variable {K K':Nat}{xs ys:List Rat}{A B:ze}{n n' c d:Nat}{w:World}
theorem N6 {z:Int}(hz:um xs ys=z)(hT:zu w)(ha:z7 w A n c xs)(hb:z7 w B n' d ys)(hx:zN K xs)(hy:zN K' ys)(hn:n<=1073741824:=by omega)(hn':n'<=1073741824:=by omega)(hK:K<=67108864:=by omega)(J:K'<=67108864:=by omega):
  Calls prog 66 #[.slice A n c,.slice B n' d] w (wR w z):=by
 have P:=ha.len;have Q:=hb.len;have M:=zb P;have O:=zb Q;have HZ:=zb hz;have H:zd (∀i,i<n->zm K (xs.getD i 0)):=λi hi=>hx.at_ za;have I:zd (∀i,i<n'->zm K' (ys.getD i 0)):=λi hi=>hy.at_ za;unfold wR;have HA:=zb ha;have V:=zb hb;have HT:=zj w (λw' hb=>hT.on hb);clear hT ha hb hx hy P Q hz;have hB:=qZ w.heap.size w;have i0:(0:Int)<=(n:Int):=za;obtain⟨N,hN⟩:∃N,min n n'=N:=⟨_,rfl⟩;have hNn:N<=n:=za;have hNm:N<=n':=za;have HN:=zb hN;have R:min (n:Int) (n':Int)=(N:Int):=za;have S:(if (n':Int)<(n:Int) then(n':Int) else(n:Int))=(N:Int):=by split<;>omega
 have T:(if n'<n then(n':Int) else(n:Int))=(N:Int):=by split<;>omega
 clear hN;go_enter func66,ntmps66;go_wp2_with fail;clear R S T
 go_loopg [11] (N+1) (λg ix wr=>∃(k:Nat),k<=N/\N<g+k/\ix=.int .i64 k/\zd (um (xs.drop k) (ys.drop k)=z)/\Below w.heap.size w wr)
 case atStart=>exact⟨0,QQ _,za,rfl,HZ,hB⟩
 case round=>
  clear hB;obtain⟨k,hkn,hg,rfl,L,hB⟩:=hrel;by_cases hlt:k<N
  ·have o:k<n:=za;have m:k<n':=za;obtain⟨ad,b1,B1,m1,d1,E1,u1,v1,rfl,-,u,v,y,hx⟩:=HA.o.get hB o;obtain⟨ae,b2,B2,m2,d2,E2,u2,v2,rfl,-,C,D,E,hy⟩:=V.o.get hB m;have aa:decide ((k:Int)<(N:Int))=true:=decide_eq_true za;have i1:(0:Int)<=(k:Int):=za;have i2:(k:Int)<(n:Int):=za;have i3:(k:Int)<(n':Int):=za;have HX:=zb hx;have HY:=zb hy;have s:=zb hB;have F:k<xs.length:=by have:=M.o;omega
   have G:k<ys.length:=by have:=O.o;omega
   clear hx hy hB;by_cases h0:xs.getD k 0=ys.getD k 0
   ·have HQ:=zb (decide_eq_true h0);have Z:zd (um (xs.drop (k+1)) (ys.drop (k+1))=z):=by
     show _=_;rw [<-Rl F G h0];exact L.o
    clear h0 F G;go_wp2_with fail;have a:=(qZ wr.heap.size wr).drew;refine rg (zk u (zk v (zk y (zk C (zk D (zk E zO)))))) (λhHeld=>?_);refine tk 0 ?_;refine tk 1 ?_;refine tk 2 ?_;refine tk 3 ?_;refine tk 4 ?_;refine tk 5 ?_;refine tk 6 ?_;refine tk 7 ?_;refine rc 8 (λKK j=>?_);go_simp;(with_reducible refine(pV HQ.o (HT.o _ (zc s.o a)) (HX.o.below a) (HY.o.below a) (H.o k o) (I.o k m) hK J).mono ?_);rintro e wa ⟨rfl,hb⟩;have a:=zc a hb;refine j.out _ _ (Cs.below hHeld hb) (λhHeld=>?_);clear j KK hb;refine tk 9 ?_;refine z4 ?_;have t:=zb (zc s.o a);clear hHeld a u v y C D E HX HY s;go_wp2;go_roundg (N - k)
    case measure=>omega
    case rel=>exact⟨k+1,za,za,by go_num,Z,t.o⟩
   ·have HQ:=zb (decide_eq_false h0);have HF:zd (tp (xs.getD k 0) (ys.getD k 0)=z):=by
     show _=_;rw [<-Re F G h0];exact L.o
    clear h0 F G;go_wp2_with fail;have a:=(qZ wr.heap.size wr).drew;refine rg (zk u (zk v (zk y (zk C (zk D (zk E zO)))))) (λhHeld=>?_);refine tk 0 ?_;refine tk 1 ?_;refine tk 2 ?_;refine tk 3 ?_;refine tk 4 ?_;refine tk 5 ?_;refine tk 6 ?_;refine tk 7 ?_;refine rc 8 (λKK j=>?_);go_simp;(with_reducible refine(pV HQ.o (HT.o _ (zc s.o a)) (HX.o.below a) (HY.o.below a) (H.o k o) (I.o k m) hK J).mono ?_);rintro e wa ⟨rfl,hb⟩;have a:=zc a hb;refine j.out _ _ (Cs.below hHeld hb) (λhHeld=>?_);clear j KK hb;refine tk 9 ?_;refine z4 ?_;have t:=zb (zc s.o a);have X:=zb (HX.o.below a);have Y:=zb (HY.o.below a);obtain⟨c0,c1,c2,e0,e1,e2,-⟩:=hHeld;clear a u v y C D E HX HY s;go_wp2_with fail;have a:=(qZ wa.heap.size wa).drew;refine rg (zk c0 (zk c1 (zk c2 (zk e0 (zk e1 (zk e2 zO)))))) (λhHeld=>?_);refine tk 0 ?_;refine tk 1 ?_;refine tk 2 ?_;refine tk 3 ?_;refine tk 4 ?_;refine tk 5 ?_;refine tk 6 ?_;refine tk 7 ?_;refine rc 8 (λKK j=>?_);go_simp;(with_reducible refine(uM HF.o (eO (HT.o _ (zc t.o a)) (X.o.below a) (Y.o.below a) (H.o k o) (I.o k m) hK J)).mono ?_);rintro e wb ⟨rfl,hb⟩;have a:=zc a hb;refine j.out _ _ (Cs.below hHeld hb) (λhHeld=>?_);clear j KK hb;refine tk 9 ?_;refine z4 ?_;have U:=zb (zc t.o a);clear hHeld a c0 c1 c2 e0 e1 e2;go_wp2;go_ret;exact⟨rfl,U.o⟩
  ·have hk:k=N:=za;subst hk;have aa:decide ((k:Int)<(k:Int))=false:=zG;have HF:zd (qb n n'=z):=by
    have h1:=M.o;have h2:=O.o;have h3:=HN.o;have h4:=L.o;rw [qc (by rw [h1,h2];exact h3.symm),h1,h2] at h4;exact h4
   have t:=zb hB;have H1:=zb (Qt n n' wr);rw [HF.o] at H1;clear hB;go_wp2_with fail;refine H1.o.mono ?_;rintro e w1 ⟨rfl,rfl⟩;go_wp2;go_ret;exact⟨rfl,t.o⟩
theorem aK {t:Bool}(e:decide (xs=ys)=t)(hT:zu w)(ha:z7 w A n c xs)(hb:z7 w B n' d ys)(hx:zN K xs)(hy:zN K' ys)(hn:n<=1073741824:=by omega)(g:n'<=1073741824:=by omega)(hK:K<=67108864:=by omega)(a:K'<=67108864:=by omega):
  Calls prog 23 #[.slice A n c,.slice B n' d] w (λe w'=>e=.returned (.bool t)/\Below w.heap.size w w'):=by
 obtain⟨z,hz⟩:∃z,um xs ys=z:=⟨_,rfl⟩;have H:=zb (N6 hz hT ha hb hx hy hn g hK a);have ht:(z==0)=t:=by
  rw [<-e,<-hz];by_cases h:xs=ys
  ·rw [decide_eq_true h,(Wk xs ys).2 h];rfl
  ·rw [decide_eq_false h,beq_eq_false_iff_ne];exact λh9=>h ((Wk xs ys).1 h9)
 clear hz hT ha hb hx hy e;have HE:=zb ht;clear ht;go_enter func23,ntmps23;go_wp2_with fail;refine H.o.mono ?_;rintro e w1 ⟨rfl,hb⟩;go_wp2;go_ret;exact⟨by rw [<-HE.o];rfl,hb⟩
end
theorem xi.drop_ {α:Type}{R:RP α}{r:Nat}{Ls:List (List α)}(h:xi R w A n Ls)(hr:r<=n):xi R w (Option.map (λx=>x.add r) A) (n - r) (Ls.drop r):=by
 refine⟨by rw [xK,h.len],λi L hi=>?_⟩;rw [yW] at hi;obtain⟨ad,B,d,rfl,h1,h2,h3⟩:=h.num _ L hi;exact⟨_,B,d,rfl,by rw [yw];exact h1,by rw [jb];exact h2,h3⟩
theorem rv.msz {a0:Nat->Nat->Rat}{S:List (List Rat)}{p:Rat}(hd:zQ S n m)(hi:∃a,vB n a0 a/\wj n m c a (zn S) ld p)(hn:n<=64)(h0:∀i,i<n->∀j,j<m->LI K (a0 i j)):yc (67+65*K) S:=λL hL x hx=>by
 obtain⟨a,hs,hi⟩:=hi;obtain⟨i,d,rfl⟩:=List.mem_iff_getElem.1 hL;obtain⟨j,g,rfl⟩:=List.mem_iff_getElem.1 hx;have h1:=hd.rows;have h2:=hd.cols _ hL;have:=(hi.sz hn (hs.li h0) (i:=i) (j:=j) za za).szq za;have e:zn S i j=S[i][j]:=by
  unfold zn;rw [qQ (l:=S),qY d];show S[i].getD j 0=_;rw [qQ,qY g];rfl
 rw [e] at this;exact this
section
variable {P:Program}{ops:Array Oper}{Q:Exit->Act->World->Prop}{S:World->Prop}{fuel:Nat}{l:Array Bool}{a:Act}{w:World}
end
section
variable {w w':World}{g:Nat}{st:sn}{rd:Rat}{A:ze}{n cA:Nat}{B:ze}{k cB:Nat}{x0 x1 x2 y0 y1 y2:Value}
def vN (M:List (List Rat)):List (List Rat):=M.map λrow=>zT (zM row) row
def uj (M:List (List Rat)):Rat:=M.foldl (λr row=>r*zM row) 1
theorem Q4 (h:i<M.length):vN (M.take (i+1))=vN (M.take i)++[zT (zM (M.getD i [])) (M.getD i [])]:=by
 unfold vN;rw [qC h,YG,qQ,qY h];rfl
theorem Z9 (h:i<M.length):uj (M.take (i+1))=uj (M.take i)*zM (M.getD i []):=by
 unfold uj;rw [qC h,YJ,qQ,qY h];rfl
theorem Q3 (h:zQ M n m):zQ (vN M) n m:=⟨by unfold vN;rw [QP];exact h.rows,λL hL=>by
 unfold vN at hL;obtain⟨row,hr,rfl⟩:=List.mem_map.1 hL;exact Nn (h.cols row hr)⟩
theorem Y5 (h:zQ M n m){i:Nat}(hi:i<n)(j:Nat):zn (vN M) i j=zM (M.getD i [])*zn M i j:=by
 have hl:=h.rows;unfold zn vN;rw [qQ (l:=List.map _ _),qW,vi (d:=[]) za];exact nw j
structure xm (K:Nat)(M:List (List Rat)):Prop where
 q:∀row ∈ M,LI K (zM row)
 x:∀row ∈ M,∀x ∈ row,LI K (zM row*x)
theorem xm.at_ {n:Nat}(h:xm K M)(hd:zQ M n m):∀i,i<n->∀j,j<m->LI K (zn (vN M) i j):=λi hi j hj=>by
 rw [Y5 hd hi];have hl:=hd.rows;have hr:=hd.row hi;have h1:M.getD i [] ∈ M:=QY (vi za);refine h.x _ h1 _ ?_;unfold zn;exact QY (vi (d:=0) za)
theorem aR {K:Nat}{M:List (List Rat)}(h:xm K M):∀i,i<=M.length->LI (1+i*K) (uj (M.take i))
 |0,_=>by rw [Nat.zero_mul];exact LI.one
 |i+1,hi=>by
   rw [Z9 za];exact((aR h i za).mul (h.q _ (QY (vi za)))).up (by rw [Nat.succ_mul];omega)
end
def mC (ld:List Nat):List Int:=ld.map λl:Nat=>(l:Int)
theorem wM.ints {B:ze}{k:Nat}(h:wM w a (.slice B k c) ld)(hb:∀l ∈ ld,l<128):s8 w B k (mC ld):=by
 obtain⟨B',c',e,-,-,-,h1⟩:=h.shape;injection e with e1 e2 e3;subst e1 e2;refine⟨by unfold mC;rw [QP],λi hi=>?_,λi hi=>?_⟩
 ·unfold mC;rw [qQ,qW,qY hi];have:=hb _ (xM hi);show -9223372036854775808<=((ld[i]:Nat):Int)/\((ld[i]:Nat):Int)<=9223372036854775807;omega
 ·obtain⟨ad,e,hc⟩:=h1 i hi;refine⟨ad,e,?_⟩;rw [hc];unfold mC;rw [qQ,qQ,qW,qY hi];rfl
theorem s8.keep {w':World}(h:s8 w A n zs)(hb:Below w.heap.size w w'):s8 w' A n zs:=
 ⟨h.len,h.ints,λi hi=>by obtain⟨ad,e,hc⟩:=h.num i hi;exact⟨ad,e,zq hb hc⟩⟩
theorem s8.off {g:Nat}{cs:Array Value}(h:s8 w A n zs)(hk:zh w g t cs)(a:tT .i64 cs)(ho:yl g w w'):s8 w' A n zs:=
 ⟨h.len,h.ints,λi hi=>by
  obtain⟨ad,e,hc⟩:=h.num i hi;refine⟨ad,e,(ho.2 _ (xY w _ hc) λhg=>?_).trans hc⟩;generalize ad.add i=q at hc hg;obtain⟨bk,off,pr⟩:=q;simp only at hg;subst hg;unfold zh at hk;cases pr with
  |none=>
    rw [show w.cell? ⟨bk,off,none⟩=cs[off]? from cell_of_row w bk off _ t (0,0) hk,<-QR] at hc;exact a _ (QY hc) _ rfl
  |some q=>simp [World.cell?,hk] at hc⟩
section
variable {w:World}{A:ze}{n c m K K0:Nat}{MM:List (List Rat)}
end
theorem Ur:∀{M:List (List Rat)} {r:Rat},r≠0->M.foldl (λr row=>r*zM row) r≠0
 |[],_,h=>h
 |L::M,r,h=>by
   rw [List.foldl_cons];refine Ur λe=>?_;rcases Rat.mul_eq_zero.1 e with e|e
   ·exact h e
   ·exact UO L e
theorem Oj (M:List (List Rat)):uj M≠0:=Ur (by decide+kernel)
section
variable {w:World}{A:ze}{n c m K K0:Nat}{MM:List (List Rat)}
end
theorem ph (h:i<ld.length):(mC ld).getD i 0=((ld.getD i 0:Nat):Int):=by
 unfold mC;rw [qQ,qQ,qW,qY h];rfl
section
variable {w:World}{A:ze}{n c m K K0:Nat}{MM:List (List Rat)}
end
theorem xm.up {K':Nat}(h:xm K M)(e:K<=K'):xm K' M:=⟨λrow hr=>(h.q row hr).up e,λrow hr x hx=>(h.x row hr x hx).up e⟩
theorem RF.congr {M M' R:Nat->Nat->Rat}(h:RF n m M ld R)(e:∀i,i<n->∀j,j<m->M i j=M' i j):RF n m M' ld R:=
 ⟨h.len,h.up,h.lt,h.piv,h.zero,h.fore,λi hi j hj=>by
  rw [<-e i hi j hj,h.sum i hi j hj];exact yj λl hl=>by rw [e i hi _ (h.lt l hl)],λl hl=>by
  obtain⟨y,hy⟩:=h.span l hl;exact⟨y,λj hj=>(hy j hj).trans (yj λi hi=>by rw [e i hi j hj])⟩⟩
theorem Qv (M:Nat->Nat->Rat){k:Nat}(hk:k<n)(a:Rat)(u:Nat->Rat):zD n (yd M k λj=>a*u j)=a*zD n (yd M k u):=by
 have h:=dU M hk a 0 u u;have e:(λj=>a*u j+0*u j)=λj=>a*u j:=by funext j;grind
 rw [e] at h;rw [h];grind
theorem UE (M:Nat->Nat->Rat)(k:Nat):yd M k (M k)=M:=by
 funext i j
 unfold yd;by_cases e:i=k
 ·rw [if_pos e,e]
 ·rw [if_neg e]
theorem Ud {m:Nat}{X:List (List Rat)}(h:zQ X m m):∀t,t<=m->zD m (λi j=>if i<t then zM (X.getD i [])*zn X i j else zn X i j)=uj (X.take t)*zD m (zn X)
 |0,_=>by
   have e:(λi j=>if i<0 then zM (X.getD i [])*zn X i j else zn X i j)=zn X:=by
    funext i j;rw [if_neg za]
   rw [e];show _=(1:Rat)*_;rw [XD]
 |t+1,ht=>by
   have hl:=h.rows;have ih:=Ud h t za;rw [Z9 za];have e1:(λi j=>if i<t+1 then zM (X.getD i [])*zn X i j else zn X i j)=yd (λi j=>if i<t then zM (X.getD i [])*zn X i j else zn X i j) t λj=>zM (X.getD t [])*zn X t j:=by
    funext i j
    unfold yd;by_cases p:i=t
    ·rw [if_pos p,if_pos za,p]
    ·rw [if_neg p];by_cases p2:i<t
     ·show _=if i<t then _ else _
      rw [if_pos p2,if_pos za]
     ·show _=if i<t then _ else _
      rw [if_neg p2,if_neg za]
   have e2:yd (λi j=>if i<t then zM (X.getD i [])*zn X i j else zn X i j) t (λj=>zn X t j)=λi j=>if i<t then zM (X.getD i [])*zn X i j else zn X i j:=by
    funext i j
    unfold yd;by_cases p:i=t
    ·rw [if_pos p,p,if_neg za]
    ·rw [if_neg p]
   rw [e1,Qv _ za,e2,ih]
   grind
theorem N8 {X:List (List Rat)}(h:zQ X m m):zD m (zn (vN X))=uj X*zD m (zn X):=by
 have e:=Ud h m (qX _);rw [qV (by rw [h.rows];exact qX _)] at e;rw [<-e];exact uz λi hi j _=>by rw [if_pos hi];exact Y5 h hi j
theorem qg {M:Nat->Nat->Rat}{v:Nat->Rat}(hc:c<m)(hv:v c=1)(h:∀i,i<m->zv m (λj=>M i j*v j)=0):zD m M=0:=by
 have e1:=fm M hc v (λl i=>M i l) m;have e2:(zv m λl=>v l*zD m (zP M c λi=>M i l))=zv m λl=>(if l=c then 1 else 0)*(v l*zD m M):=yj λl hl=>by
  by_cases e:l=c
  ·rw [if_pos e,e,gW,XD]
  ·rw [if_neg e,dL hc hl (Ne.symm e)];grind
 rw [e2,iN hc (λl=>v l*zD m M),hv,XD] at e1;rw [<-e1,uz (N:=zP M c λi=>0*(λ_=>(0:Rat)) i) λi hi j _=>?_,dK M hc,yX];by_cases e:j=c
 ·rw [e,vJ,vJ];show zv m (λl=>v l*M i l)=0*0;rw [yj (g:=λl=>M i l*v l) λl _=>YW _ _,h i hi];grind
 ·rw [vS _ e,vS _ e]
theorem yx.moved {α:Type}{E:El α}{xs:List α}(h:yx E w a t v xs vs)(hg:∀b,v.ownBlock=some b->w'.heap[b]?=w.heap[b]?)(hE:∀{x:α} {b:Bool} {A:ze} {n c:Nat} {F:ze} {k f:Nat},E w x b A n c F k f->E w' x b A n c F k f):yx E w' a t v xs vs:=by
 refine⟨⟨h.own.1,?_⟩,h.nou.block hg,λi x hi=>?_⟩
 ·rcases h.own.2 with h1|⟨g,cap,cur,e1,e2,e3,e4⟩
  ·exact .inl h1
  ·exact .inr ⟨g,cap,cur,e1,e2,(hg g (by rw [e1];rfl)).trans e3,e4⟩
 ·obtain⟨b,B,m,d,F,u,f,h1,h2,h3,h4⟩:=h.num i x hi;exact⟨b,B,m,d,F,u,f,h1,h2,h3,hE h4⟩
structure sk (E:El Rat)(w:World)(lo:Nat)(v:Value)(M:List (List Rat))(vs:List Value):Prop where
 own:w.ownsRow lo 78 1 v M.length vs
 sl:wC w v
 num:∀(i:Nat) (L:List Rat),M[i]?=some L->∃(u:Value) (us:List Value),vs[i]?=some u/\yx E w lo 43 u L us
 apart:∀(i j:Nat) (u u':Value) (b:Nat),vs[i]?=some u->vs[j]?=some u'->u.ownBlock=some b->u'.ownBlock=some b->i=j
 far:∀(i:Nat) (u:Value) (b:Nat),vs[i]?=some u->u.ownBlock=some b->v.ownBlock≠some b
theorem sk.nil (E:El Rat)(w:World)(lo:Nat):sk E w lo (.slice none 0 0) [] []:=⟨xJ _ _ _ _,wC.nil _ _,λi L hi=>by simp at hi,λi j u u' b hi=>by simp at hi,λi u b hi=>by simp at hi⟩
theorem sk.len {E:El Rat}(h:sk E w lo v M vs):vs.length=M.length:=by have:=h.own.1;omega
theorem sk.below {E:El Rat}(hE:vU E){w w':World}{lo:Nat}{v:Value}{M:List (List Rat)}{vs:List Value}(h:sk E w lo v M vs)(hb:Below w.heap.size w w'):sk E w' lo v M vs where
 own:=⟨h.own.1,by
  rcases h.own.2 with h1|⟨g,cap,cur,e1,e2,e3,e4⟩
  ·exact .inl h1
  ·exact .inr ⟨g,cap,cur,e1,e2,(hb.block g (zh.lt (t:=78) (cs:=cur) e3)).trans e3,e4⟩⟩
 sl:=h.sl.below hb
 num:=λi L hi=>by
  obtain⟨u,us,h1,h2⟩:=h.num i L hi;exact⟨u,us,h1,h2.below hE hb⟩
 apart:=h.apart
 far:=h.far
section
variable {α:Type}{E:El α}
theorem zZ.cells {ad:Addr}{xs:List α}(h:zZ E w (some ad) n c xs):∃a:List Value,a.length=n*3/\(∀j u,a[j]?=some u->w.cell? (ad.add j)=some u)/\(∀u ∈ a,u.oneCell'=true)/\(∀u ∈ a,tM u)/\
  ∀i x,xs[i]?=some x->∃(b:Bool) (B:ze) (m d:Nat) (F:ze) (u f:Nat),a[i*3]?=some (.bool b)/\a[i*3+1]?=some (.slice B m d)/\a[i*3+2]?=some (.slice F u f)/\E w x b B m d F u f:=by
 have hl:=h.len;have hc:∀j,j<n*3->∃u,w.cell? (ad.add j)=some u/\u.oneCell'=true/\tM u:=λj hj=>by
  have hi:j / 3<n:=za;obtain⟨o,b,B,m,d,F,u,v,e,h1,h2,h3,h4,h5⟩:=h.num (j / 3) _ (qY za);injection e with e;subst e;have s:j%3=0\/j%3=1\/j%3=2:=za;rcases s with h9|h9|h9
  ·exact⟨.bool b,by rw [show j=j / 3*3 by omega];exact h2,rfl,λk z e=>by cases e⟩
  ·exact⟨.slice B m d,by rw [show j=j / 3*3+1 by omega];exact h3,rfl,λk z e=>by cases e⟩
  ·exact⟨.slice F u v,by rw [show j=j / 3*3+2 by omega];exact h4,rfl,λk z e=>by cases e⟩
 have hg:∀j u,j<n*3->w.cell? (ad.add j)=some u->((List.range (n*3)).map λj=>(w.cell? (ad.add j)).getD (.bool false))[j]?=some u:=λj u hj hu=>by
  rw [qW,xD hj];show some ((w.cell? (ad.add j)).getD (.bool false))=some u;rw [hu];rfl
 refine⟨(List.range (n*3)).map λj=>(w.cell? (ad.add j)).getD (.bool false),zG,λj u hj=>?_,λu hu=>?_,λu hu=>?_,λi x hi=>?_⟩
 ·have g:j<n*3:=by
   have:=(List.getElem?_eq_some_iff.1 hj).1;simpa using this
  obtain⟨u',h1,-,-⟩:=hc j g;rw [hg j u' g h1] at hj;injection hj with hj;rw [<-hj];exact h1
 ·obtain⟨j,hj,rfl⟩:=List.mem_map.1 hu;obtain⟨u',h1,h2,-⟩:=hc j (List.mem_range.1 hj);rw [h1];exact h2
 ·obtain⟨j,hj,rfl⟩:=List.mem_map.1 hu;obtain⟨u',h1,-,h2⟩:=hc j (List.mem_range.1 hj);rw [h1];exact h2
 ·have g:=(List.getElem?_eq_some_iff.1 hi).1;obtain⟨o,b,B,m,d,F,u,v,e,h1,h2,h3,h4,h5⟩:=h.num i x hi;injection e with e;subst e;exact⟨b,B,m,d,F,u,v,hg _ _ za h2,hg _ _ za h3,hg _ _ za h4,h5⟩
theorem yx.copied (hE:vU E){w w':World}{c n:Nat}{t:TypeId}{v':Value}{xs:List α}{a:List Value}(hl:xs.length=n)
  (g:∀i x,xs[i]?=some x->∃(b:Bool) (B:ze) (m d:Nat) (F:ze) (u f:Nat),a[i*3]?=some (.bool b)/\a[i*3+1]?=some (.slice B m d)/\a[i*3+2]?=some (.slice F u f)/\E w x b B m d F u f)
  (ho:w'.ownsRow c t 3 v' (0+n) ([]++a)) (hg:w.grownBy w' none) (hn:wV w' v'):yx E w' c t v' xs a:=by
 rw [xR,yQ] at ho;refine⟨by rw [hl];exact ho,hn,λi x hi=>?_⟩;obtain⟨b,B,m,d,F,u,f,h1,h2,h3,h4⟩:=g i x hi;exact⟨b,B,m,d,F,u,f,h1,h2,h3,hE.below h4 (sU hg)⟩
end
theorem sk.rows {E:El Rat}(h:sk E w lo v M vs):xe (zZ E) w lo 78 v M vs:=
 ⟨h.own,h.sl,λi L hi=>by
  obtain⟨u,us,h1,h2⟩:=h.num i L hi;obtain⟨B,d,rfl,h3,-⟩:=h2.shape;exact⟨B,d,h1,h3⟩⟩
theorem sk.new {E:El Rat}{u:Value}(h:sk E w lo v M vs)(a:u.ownBlock=none\/u.ownBlock=some w.heap.size):(∀(i:Nat) (u':Value) (b:Nat),vs[i]?=some u'->u'.ownBlock=some b->u.ownBlock≠some b)/\∀b,u.ownBlock=some b->v.ownBlock≠some b:=by
 have hl:=h.len;refine⟨λi u' b hi e e2=>?_,λb e e2=>?_⟩
 ·have hlt:=(List.getElem?_eq_some_iff.1 hi).1;obtain⟨z,zs,h1,h2⟩:=h.num i _ (qY za);rw [hi] at h1;injection h1 with h1;subst h1;have:=(h2.own.lt b e).2;rcases a with a|a
  ·rw [a] at e2;cases e2
  ·rw [a] at e2;injection e2 with e2;omega
 ·have:=(h.own.lt b e2).2;rcases a with a|a
  ·rw [a] at e;cases e
  ·rw [a] at e;injection e with e;omega
theorem Pu {z:Nat}{A:ze}{w:World}(hz:z<=255)(hc:n<=c)(hc2:c<=1048576):
  Calls prog 7 #[.agg #[.int .u8 (z:Int),.slice A n c],.int .i64 4] w (λe w'=>e=.returned (.agg #[.int .u8 ((z%5:Nat):Int),.slice A (min n (z%5)) c])/\Below w.heap.size w w'):=by
 obtain⟨m,hm⟩:∃m,z%5=m:=⟨_,rfl⟩;have k:(z:Int)%5=(m:Int):=za;have hzt:(z:Int).tmod 5=(m:Int):=by rw [xC za];exact k
 rw [hm];have bm:m<=4:=za;have i0:(0:Int)<=(m:Int):=za;obtain⟨g,a,i,-⟩:=z8 w 24 24 #[.int .u8 (z:Int),.slice A n c] #[.int .u8 0,.slice none 0 0];obtain⟨p0,p1⟩:=a.c2;have sf0:=a.frozen 0;have k1:=a.set_ 0 (.int .u8 (m:Int));have k1:zh _ _ _ #[.int .u8 (m:Int),.slice A n c]:=k1;obtain⟨q0,q1⟩:=k1.c2;have sf1:=k1.frozen 1;have j1:=zh.far (p:=⟨w.heap.size,0,none⟩) i (by show w.heap.size+1≠w.heap.size;omega) (.int .u8 (m:Int));have j:=zB (p:=⟨w.heap.size,0,none⟩) (.int .u8 (m:Int)) (qX w.heap.size) g;by_cases hlt:m<n
 ·rw [show min n m=m by omega];have d1:decide ((n:Int)>(m:Int))=true:=decide_eq_true za;have d2:decide ((m:Int)<(n:Int))=true:=decide_eq_true za;have i1:(m:Int)<=(c:Int):=za;have i2:(m:Int)<=(n:Int):=za;have i3:m<=c:=za;have k2:=k1.set_ 1 (.slice A m c);have k2:zh _ _ _ #[.int .u8 (m:Int),.slice A m c]:=k2;obtain⟨q2,q3⟩:=k2.c2;have j2:=zh.far (p:=⟨w.heap.size,1,none⟩) j1 (by show w.heap.size+1≠w.heap.size;omega) (.slice A m c);have o:=zB (p:=⟨w.heap.size,1,none⟩) (.slice A m c) (qX w.heap.size) j;obtain⟨s,u,t,y⟩:=vh j2 (.int .u8 (m:Int));obtain⟨r0,r1⟩:=(vg j2 (.int .u8 (m:Int)) (.slice A m c)).c2;have d:=zb (z8 w 24 24 #[.int .u8 (m:Int),.slice A m c] #[.int .u8 (m:Int),.slice A m c]).1;clear g a i k1 k2 j1 j2 j o hm k hz;go_enter func7,ntmps7;go_wp2;refine bodyPost_ret (v:=.agg #[.int .u8 (m:Int),.slice A m c]) (by simp [results,results7,go_sem,r0,r1]) rfl ?_;exact⟨rfl,d.o⟩
 ·rw [show min n m=n by omega];have d1:decide ((n:Int)>(m:Int))=false:=decide_eq_false za;have d2:decide ((m:Int)<(n:Int))=false:=decide_eq_false za;obtain⟨s,u,t,y⟩:=vh j1 (.int .u8 (m:Int));obtain⟨r0,r1⟩:=(vg j1 (.int .u8 (m:Int)) (.slice A n c)).c2;have d:=zb (z8 w 24 24 #[.int .u8 (m:Int),.slice A n c] #[.int .u8 (m:Int),.slice A n c]).1;clear g a i k1 j1 j hm k hz;go_enter func7,ntmps7;go_wp2;refine bodyPost_ret (v:=.agg #[.int .u8 (m:Int),.slice A n c]) (by simp [results,results7,go_sem,r0,r1]) rfl ?_;exact⟨rfl,d.o⟩
