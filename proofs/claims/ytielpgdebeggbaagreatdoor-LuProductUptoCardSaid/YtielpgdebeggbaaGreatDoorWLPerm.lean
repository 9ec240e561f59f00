/- What this claim leans on. -/
import Derived.Test.YtielpgdebeggbaaGreatDoorWLSolve
set_option linter.unusedVariables false
set_option linter.unusedSimpArgs false
namespace Go.Proofs.YtielpgdebeggbaaGreatDoor
open Go Go.RowKit Go.Proofs.Tryz
set_option maxHeartbeats 16000000
set_option maxRecDepth 100000
variable {ld:List Nat}{n:Nat}{w:World}
def fE (w:World)(n:Nat)(ld:List Nat)(eo:Ending)(w':World):Prop:=∃(A:ze) (c:Nat),eo=.returned (.slice A n c)/\sF w' A n (nL ld)/\Below w.heap.size w w'
theorem ZF {A:ze}(hl:ld.length=n)(hb:∀l ∈ ld,l<128)(h:∀i,i<n->∃ad,A=some ad/\w.cell? (ad.add i)=some (.int .i64 (ld.getD i 0:Nat))):sF w A n (nL ld) where
 len:=by unfold nL;rw [QH];exact hl
 ints:=λi hi=>by
  have:=hb (ld.getD i 0) (lC zb);rw [ZU zb];omega
 num:=λi hi=>by
  rw [ZU zb];exact h i hi
theorem SD {w':World}{v:Value}(ho:w'.ownsRow w.heap.size 3 1 v n (vj ld))(hl:ld.length=n)(hb:∀l ∈ ld,l<128)(hB:Below w.heap.size w w'):fE w n ld (.returned v) w':=by
 rcases ho.2 with⟨rfl,h0⟩|⟨g,cap,cur,rfl,hbg,hg,hnc,hcm,hcs,htake⟩
 ·subst h0;exact⟨none,0,rfl,ZF hl hb λi hi=>absurd hi (Nat.not_lt_zero i),hB⟩
 ·have a:=ho.cells (g:=g) rfl;refine⟨some ⟨g,0,none⟩,cap,rfl,ZF hl hb λi hi=>⟨_,rfl,a _ _ ?_⟩,hB⟩;unfold vj;rw [qN,qQ,qY zb];rfl
theorem nM (ld:List Nat):∀u ∈ vj ld,u.oneCell'=true:=λu hu=>by
 obtain⟨l,_,rfl⟩:=List.mem_map.1 hu;rfl
theorem Tr (ad:Addr)(n c:Nat)(l:List Nat)(w:World)(hA:zK w w.heap.size 1 (some ad) n (vj l))(hl:l.length=n)(hb:∀x ∈ l,x<128)(hn:n<=1048576):
  Calls prog 47 #[.slice (some ad) n c] w (fE w n l):=by
 obtain⟨i0,t,u,v,y⟩:=info_parts lm;have q:∀(w:World) (a:ze) (n c n' c':Nat),(binOp .eql 35 (.slice a n c) (.slice none n' c')).run prog w=.ok (.bool a.isNone) w:=λw a n c n' c'=>Lib.run_eql_slice_nil w _ _ a n c n' c' underlying35;have m:∀o,zK (w.alloc o) w.heap.size 1 (some ad) n (vj l):=λo=>hA.alloc (qX _) o;have HL:=za hl;have k:=za hb;clear hl hb;go_enter func47,ntmps47;go_wp2_with (at_builtin;refine Yf _ rfl (.tmp 5) (.tmp 6) 35 rfl w.heap.size 3 i0 (.int .i64 0) 1 8 underlying35 t u v y rfl zf (.slice (some ⟨w.heap.size,0,none⟩) 0 0) 0 [] rfl (World.ownsRow_made w #[] 0 (qX _) (qW _) rfl) _ (some ad) n c (vj l) rfl (m _) (nM _) (by unfold maxLen;omega) zb zA ?_;intro v' w1 h d s);have j:Below w.heap.size w w1:=((qZ _ w).alloc (qX _) _).grown d zA (λg hg=>by simp [Value.ownBlock] at hg;omega);have i:w1.ownsRow w.heap.size 3 1 v' n (vj l):=by simpa using h
 have G:=za (SD i HL.o k.o j);clear h d s j i;go_wp2;go_ret;exact G.o
theorem Tq (c:Nat)(w:World):Calls prog 47 #[.slice none 0 c] w λe w'=>e=.returned (.slice none 0 0)/\w=w':=by
 have q:∀(w:World) (a:ze) (n c n' c':Nat),(binOp .eql 35 (.slice a n c) (.slice none n' c')).run prog w=.ok (.bool a.isNone) w:=λw a n c n' c'=>Lib.run_eql_slice_nil w _ _ a n c n' c' underlying35;go_enter func47,ntmps47;go_wp2;go_ret;exact⟨rfl,rfl⟩
section
variable {w:World}{g n K:Nat}{e:yt}{M:List (List Rat)}{cA cB cD:Nat}{A B D:ze}{x0 x1 x2:Value}{qs:List Nat}
theorem UE (h:zw w g n e A n cA B n cB D n cD x0 x1 x2 qs)(a:z5 n n K M e)(hn:n<=64):
  Calls prog 13 #[.pointer (some ⟨g,0,none⟩)] w (fE w n e.P):=by
 have q0:=h.blk.cell 2;have hl:=a.pl;have hb:∀x ∈ e.P,x<128:=λx hx=>by
  have:=List.mem_range.1 (a.perm.mem_iff.1 hx);omega
 have HC:zd (Calls prog 47 #[.slice D n cD] w (fE w n e.P)):=by
  obtain⟨A',c',e1,e2,e3,-,e4⟩:=h.perm.shape;rw [hl] at e1 e4;injection e1 with e1 _ _;subst e1;cases D with
  |none=>
    have m:n=0:=by
     rcases xQ n with h0|h0
     ·exact h0
     ·obtain⟨ad,e9,_⟩:=e4 0 h0;cases e9
    subst m;exact(Tq cD w).mono λeo w' ⟨h1,h2⟩=>by
     subst h1 h2;exact⟨none,0,rfl,ZF hl hb λi hi=>absurd hi (Nat.not_lt_zero i),qZ _ _⟩
  |some ad=>
    refine Tr ad n cD e.P w ⟨by unfold vj;rw [QH,hl,xV],λh0=>?_⟩ hl hb zb;obtain⟨ad2,e9,d⟩:=e4 0 h0;injection e9 with e9;subst e9;refine⟨_,rfl,by have:=QB w _ d;rwa [yk] at this,λj u hj=>?_⟩;have k:j<n:=by
     have:=(List.getElem?_eq_some_iff.1 hj).1;unfold vj at this;rw [QH] at this;omega
    obtain⟨ad3,e9,hc⟩:=e4 j k;injection e9 with e9;subst e9;rw [hc];unfold vj at hj;rw [qN,qY zb] at hj;rw [qQ,qY zb];exact hj
 clear h a hl hb;go_enter func13,ntmps13;go_wp2_with fail;(with_reducible refine HC.o.mono ?_);rintro eo w2 ⟨A2,c2,rfl,c,hb⟩;have HF:zd (fE w n e.P (.returned (.slice A2 n c2)) w2):=⟨A2,c2,rfl,c,hb⟩;clear c hb q0 HC;go_wp2;go_ret;exact HF.o
end
def sQ (f:Nat->Rat):List Nat->Rat
 |[]=>0
 |x::xs=>f x+sQ f xs
theorem Y8 (f:Nat->Rat):∀xs ys,sQ f (xs++ys)=sQ f xs+sQ f ys
 |[],ys=>by show _=(0:Rat)+_;rw [yD];rfl
 |x::xs,ys=>by
   show f x+sQ f (xs++ys)=f x+sQ f xs+sQ f ys;rw [Y8 f xs ys,Rat.add_assoc]
theorem Qe (f:Nat->Rat){xs ys:List Nat}(h:xs.Perm ys):sQ f xs=sQ f ys:=by
 induction h with
 |nil=>rfl
 |cons x _ ih=>show f x+_=f x+_;rw [ih]
 |swap x y l=>show f y+(f x+_)=f x+(f y+_);grind
 |trans _ _ h1 h2=>rw [h1,h2]
theorem WH (f:Nat->Rat):∀n,sQ f (List.range n)=zq n f
 |0=>rfl
 |n+1=>by
   rw [yL,Y8,WH f n,xw];show _+(f n+0)=_;rw [xK]
theorem VO (f:Nat->Rat):∀(P:List Nat),sQ f P=zq P.length λk=>f (P.getD k 0)
 |[]=>rfl
 |x::xs=>by
   show f x+sQ f xs=_;rw [VO f xs,xJ,WI];rfl
theorem Qg {P:List Nat}(h:P.Perm (List.range n))(f:Nat->Rat):zq n f=zq n λk=>f (P.getD k 0):=by
 rw [<-WH f n,<-Qe f h,VO,h.length_eq,XJ]
section
variable {n K:Nat}{M:List (List Rat)}{e:yt}
theorem z5.nd (h:z5 n n K M e):e.P.Nodup:=h.perm.nodup_iff.2 List.nodup_range
theorem z5.inj (h:z5 n n K M e){i j:Nat}(hi:i<n)(hj:j<n)(e9:e.P.getD i 0=e.P.getD j 0):i=j:=by
 have hl:=h.pl;refine WQ h.nd zb zb ?_;rw [qQ,qY zb,qQ,qY zb] at e9;exact e9
theorem z5.sur (h:z5 n n K M e){i:Nat}(hi:i<n):∃k,k<n/\e.P.getD k 0=i:=by
 have hl:=h.pl;obtain⟨k,hk,e9⟩:=List.mem_iff_getElem.1 (h.perm.mem_iff.2 (List.mem_range.2 hi));exact⟨k,zb,by rw [qQ,qY hk];exact e9⟩
theorem z5.product (h:z5 n n K M e){r c:Nat}(hr:r<n)(hc:c<n):zq n (λk=>wv e r k*ww e k c)=zl M (e.P.getD r 0) c:=by
 have ht:=h.tne hr;have h1:=h.inv.all hr hc;have e1:zq n (λk=>wv e r k*ww e k c)=(e.T.getD r 0)⁻¹*zq n λk=>if k<=r/\k<=c then x6 (zl e.S) r c k else 0:=by
  rw [wM];refine ya λk hk=>?_;have h2:=h.inv.ne k hk;have h3:=h.inv.pr (k:=k) zb;have h4:=h.tne hk;unfold wv ww;by_cases q1:r<k
  ·rw [if_pos q1,XR,if_neg (by omega:¬(k<=r/\k<=c)),xO]
  ·rw [if_neg q1];by_cases q2:c<k
   ·rw [if_pos q2,xO,if_neg (by omega:¬(k<=r/\k<=c)),xO]
   ·rw [if_neg q2,if_pos zb];unfold x6
    grind
 rw [e1,<-h1];unfold aF
 grind
theorem z5.low1 (h:z5 n n K M e){r:Nat}(hr:r<n):wv e r r=1:=by
 have h1:=h.inv.ne r hr;have h2:=h.tne hr;unfold wv;rw [if_neg zb];grind
theorem z5.upp1 (h:z5 n n K M e){r:Nat}(hr:r<n):ww e r r≠0:=by
 have h1:=h.inv.ne r hr;have h2:=h.tne hr;have h3:=h.inv.pr (k:=r) zb;unfold ww;rw [if_neg zb];intro e9;apply h1
 grind
theorem R9 {k:Nat}{b:List Rat}(hk:k<n):(vY n e b).getD k 0=e.T.getD k 0*b.getD (e.P.getD k 0) 0:=by
 rw [qQ,WF e b hk];rfl
theorem z5.solves (h:z5 n n K M e){L K':Nat}{b:List Rat}{C:List (List Rat)}(hs:wu n K' L (aF M e) e.S C (vY n e b)){i:Nat}(hi:i<n):zq n (λj=>zl M i j*(wi n e.S C (vY n e b)).getD j 0)=b.getD i 0:=by
 obtain⟨k,hk,rfl⟩:=h.sur hi;have h1:=hs.sol hk;have ht:=h.tne hk;rw [R9 hk] at h1;have e1:zq n (λj=>aF M e k j*(wi n e.S C (vY n e b)).getD j 0)=e.T.getD k 0*zq n λj=>zl M (e.P.getD k 0) j*(wi n e.S C (vY n e b)).getD j 0:=by
  rw [wM];refine ya λj _=>?_;unfold aF;grind
 rw [e1] at h1;generalize zq n (λj=>zl M (e.P.getD k 0) j*(wi n e.S C (vY n e b)).getD j 0)=u at h1⊢
 grind
theorem p6 (h:z5 n n K M e)(s:List Rat):∀j,j<=n->∀k,k<j->(tS n e s j).getD (e.P.getD k 0) 0=e.T.getD k 0*s.getD k 0
 |j+1,hj,k,hk=>by
   show(List.set _ _ _).getD _ 0=_;rw [qQ,List.getElem?_set];by_cases e9:k=j
   ·subst e9;rw [if_pos rfl,if_pos (by rw [ZO];exact h.pn zb)];rfl
   ·rw [if_neg λx=>e9 (h.inj zb zb x.symm),<-qQ];exact p6 h s j zb k zb
theorem z5.solvesT (h:z5 n n K M e){L K':Nat}{b:List Rat}{R:List (List Rat)}(hs:wu n K' L (λi j=>aF M e j i) R e.S b){c:Nat}(hc:c<n):zq n (λi=>(tS n e (wi n R e.S b) n).getD i 0*zl M i c)=b.getD c 0:=by
 rw [Qg h.perm,<-hs.sol hc];refine ya λk hk=>?_;rw [p6 h _ n (qX n) k hk];unfold aF;grind
end
theorem TX {g:Nat}{t:TypeId}(hk:zh w g t (madeCells uo n)):xz (z8 zo) w t g n (List.replicate n []):=by
 refine⟨zA,⟨_,hk,Ui _,size_madeCells _ _⟩,λi x hi=>?_⟩;have a:i<n:=by
  have:=(List.getElem?_eq_some_iff.1 hi).1;simpa using this
 obtain rfl:[]=x:=by
  rw [List.getElem?_replicate,if_pos a] at hi;injection hi
 refine⟨none,0,?_,z8.nil _⟩;rw [hk.cell,mO _ _ _ a,show uo.size=1 from rfl,XX];rfl
theorem Re (n:Nat)(hn:n<=1099511627776)(W:World):(Instr.makeSlice 26 (.int .i64 (n:Int)) (.int .i64 (n:Int))).run prog W=.ok (.slice (some ⟨W.heap.size,0,none⟩) n n) (W.alloc (.cells (madeCells uo n) 41)):=by
 obtain⟨i0,a,c,d,g⟩:=info_parts io;have h:=sx (P:=prog) _ _ i0 _ underlying26 a c .i64 .i64 n n (qX _) (by rw [g];omega) zb W;rw [d,xV] at h;exact h
section
variable {A B:ze}{n c k k' d m K K':Nat}{MA MB:List (List Rat)}{w:World}
theorem qq {r:Nat}(hr:r<n):(sk n k m MA MB)[r]?=some (uj (vQ k m MB) (MA.getD r [])):=by
 rw [S8];exact dG _ hr
theorem nX (hT:zt w)(hA:xF w A n c k MA)(hB:xF w B k d m MB)(z:z7 K MA)(z':z7 K' MB)(hK:K<=67108864:=by omega)(az:K'<=67108864:=by omega)(hS:1+k*(K'+K+1)<=67108864:=by omega):
  Calls prog 14 #[.agg #[.slice A n c,.int .i64 (k:Int)],.agg #[.slice B k d,.int .i64 (m:Int)]] w (eS w n m (sk n k m MA MB)):=by
 obtain⟨hn,hk⟩:=And.intro hA.hn hA.hm;have hm:=hB.hm;have e0:((k:Int) !=(k:Int))=false:=zA;have HR:=λW=>za (tD B k d (m:Int) W);have af:=λW=>za (tD A n c (k:Int) W);have av:=za hA;have X:=za (λW (hb:Below w.heap.size w W)=>Y1 (hB.keep hb));have Y:=za (λW (Q V:ze) (q e:Nat) (r:Nat) (a9:r<n) (hb:Below w.heap.size w W) (hr:yx (z8 zo) W Q m (vQ k m MB)) (hv:zR W V k e (MA.getD r []))=>Ze (q:=q) (hT.on hb) hr (Vi k m MB).cols hv (z'.turn hB.dims) (z.row (i:=r) (by rw [hA.dims.rows];exact a9)) hm hk az hK hS);have ae:zd ((sk n k m MA MB).length=n):=fu _ _ _;have an:zd (∀r,r<n->(sk n k m MA MB)[r]?=some (uj (vQ k m MB) (MA.getD r []))):=λr hr=>qq hr;have a5:zd (∀v,(uj (vQ k m MB) v).length=m):=λv=>by rw [eJ];exact fu _ _ _
 have am:=za (Wv n k m MA MB);obtain⟨M,hM⟩:∃M,sk n k m MA MB=M:=⟨_,rfl⟩;rw [hM] at ae an am⊢;have hmk:=Re n zb;obtain⟨ax,ag,ah,ay,bz⟩:=y9 w 28 28 28 #[.slice A n c,.int .i64 (k:Int)] #[.slice B k d,.int .i64 (m:Int)] #[.slice none 0 0,.int .i64 0];obtain⟨p0,p1⟩:=ag.c2;obtain⟨q0,q1⟩:=ah.c2;have HB:=za ax;have HK:=za ay;have S:=za ag;have T:=za ah;have i0:(0:Int)<=(n:Int):=zb;clear hT hA hB z z' hM ax ag ah ay bz hS hK az;go_enter func14,ntmps14;go_wp2_with fail;generalize ((w.alloc (.cells #[.slice A n c,.int .i64 (k:Int)] 28)).alloc (.cells #[.slice B k d,.int .i64 (m:Int)] 28)).alloc (.cells #[.slice none 0 0,.int .i64 0] 28)=W1 at*;have h:=(qZ W1.heap.size W1).drew;refine rg (zk p1 (zk q0 (zk q1 zQ))) (λhHeld=>?_);clear p0 p1 q0 q1;have HB:=za (zc HB.o h);have HK:=za (zg h HK.o);have S:=za (zg h S.o);have T:=za (zg h T.o);clear h;generalize W1.drew=D at*;refine tk 0 ?_;refine tk 1 ?_;refine tk 2 ?_;refine rc 3 (λKK a=>?_);go_simp;refine(HR _).o.mono ?_;rintro e w2 ⟨rfl,hb⟩;refine a.out _ _ (Cs.below hHeld hb) (λhHeld=>?_);clear a KK;have R:=za (zc HB.o hb);have H:=za (zg hb HK.o);have C:=za (zg hb S.o);have E:=za (zg hb T.o);clear hb HB HK S T;refine tk 4 ?_;refine zN ?_;clear hHeld;go_upto_region 3 with fail
 go_cut [6,16,17,18,19,20,21] (λs6 s16 s17 s18 s19 s20 s21 wx=>∃g1 g2:Nat,s6=.pointer (some ⟨g2,0,none⟩)/\g1≠g2/\w2.heap.size<=g1/\w2.heap.size<=g2/\zh wx g1 41 (madeCells uo n)/\zh wx g2 28 #[.slice (some ⟨g1,0,none⟩) n n,.int .i64 (m:Int)]/\Below w2.heap.size w2 wx)
 case first=>
  obtain⟨p0,p1⟩:=C.o.c2;obtain⟨q0,q1⟩:=E.o.c2;have hl1:=C.o.lt;have hl2:=E.o.lt;have h:=(qZ w2.heap.size w2).drew;refine rg (zk p0 (zk p1 (zk q1 zQ))) (λhHeld=>?_);clear p0 p1 q0 q1 C E H R av X Y;generalize w2.drew=D2 at*;refine tk 0 ?_;refine tk 3 ?_;refine tk 4 ?_;refine wG 1 6 (λKK a=>?_) (λKK a=>?_)
  ·go_simp;refine(af _).o.mono ?_;rintro e w4 ⟨rfl,hb⟩;refine a.out _ _ (Cs.below hHeld hb) (λhHeld=>?_);clear a KK;have h:=zc h hb;clear hb;refine wG 2 6 (λKK a=>?_) (λKK a=>?_)
   ·go_simp;obtain⟨t1,t2,t3⟩:=zu w4 41 (madeCells uo n);refine a.out _ _ (Cs.below hHeld t1) (λhHeld=>?_);clear a KK;have J:w2.heap.size<=w4.heap.size:=h.size;have h:=zc h t1;generalize w4.alloc (.cells (madeCells uo n) 41)=W5 at*;generalize w4.heap.size=g1 at*;refine tk 5 ?_;refine rc 6 (λKK a=>?_);go_simp;obtain⟨u1,u2,u3⟩:=zu W5 28 #[.slice none 0 0,.int .i64 0];refine a.out _ _ (Cs.below hHeld u1) (λhHeld=>?_);clear a KK;have t:w2.heap.size<=W5.heap.size:=h.size;have s:g1≠W5.heap.size:=zb;have h:=zc h u1;have t4:=zg u1 t2;generalize W5.alloc (.cells #[.slice none 0 0,.int .i64 0] 28)=W6 at*;generalize W5.heap.size=g2 at*;obtain⟨F,G,L,N⟩:=ue u2 (.slice (some ⟨g1,0,none⟩) n n);refine rc 7 (λKK a=>?_);go_simp;refine a.out _ _ (Cs.far hHeld (vJ _ _ _ _) ⟨by show w.heap.size≠g2;omega,by show w.heap.size≠g2;omega,by show w.heap.size+1≠g2;omega,trivial⟩) (λhHeld=>?_);clear a KK;refine zN ?_;clear hHeld F G L N;go_wp2;go_meet;exact⟨g1,g2,rfl,s,J,t,zh.far (p:=⟨g2,1,none⟩) (zh.far (p:=⟨g2,0,none⟩) t4 s _) s _,ud u2 _ _,lU _ _ t h⟩
   ·go_simp;obtain⟨u1,u2,u3⟩:=zu w4 28 #[.slice none 0 0,.int .i64 0];refine a.out _ _ (Cs.below hHeld u1) (λhHeld=>?_);clear a KK;have t:w2.heap.size<=w4.heap.size:=h.size;have h:=zc h u1;generalize w4.alloc (.cells #[.slice none 0 0,.int .i64 0] 28)=W5 at*;generalize w4.heap.size=g2 at*;refine rc 2 (λKK a=>?_);go_simp;obtain⟨t1,t2,t3⟩:=zu W5 41 (madeCells uo n);refine a.out _ _ (Cs.below hHeld t1) (λhHeld=>?_);clear a KK;have J:w2.heap.size<=W5.heap.size:=h.size;have s:W5.heap.size≠g2:=zb;have h:=zc h t1;have u4:=zg t1 u2;generalize W5.alloc (.cells (madeCells uo n) 41)=W6 at*;generalize W5.heap.size=g1 at*;refine tk 5 ?_;obtain⟨F,G,L,N⟩:=ue u4 (.slice (some ⟨g1,0,none⟩) n n);refine rc 7 (λKK a=>?_);go_simp;refine a.out _ _ (Cs.far hHeld (vJ _ _ _ _) ⟨by show w.heap.size≠g2;omega,by show w.heap.size≠g2;omega,by show w.heap.size+1≠g2;omega,trivial⟩) (λhHeld=>?_);clear a KK;refine zN ?_;clear hHeld F G L N;go_wp2;go_meet;exact⟨g1,g2,rfl,s,J,t,zh.far (p:=⟨g2,1,none⟩) (zh.far (p:=⟨g2,0,none⟩) t2 s _) s _,ud u4 _ _,lU _ _ t h⟩
  ·go_simp;obtain⟨u1,u2,u3⟩:=zu D2 28 #[.slice none 0 0,.int .i64 0];refine a.out _ _ (Cs.below hHeld u1) (λhHeld=>?_);clear a KK;have t:w2.heap.size<=D2.heap.size:=h.size;have h:=zc h u1;generalize D2.alloc (.cells #[.slice none 0 0,.int .i64 0] 28)=W4 at*;generalize D2.heap.size=g2 at*;refine rc 1 (λKK a=>?_);go_simp;refine(af _).o.mono ?_;rintro e W5 ⟨rfl,hb⟩;refine a.out _ _ (Cs.below hHeld hb) (λhHeld=>?_);clear a KK;have h:=zc h hb;have u2:=zg hb u2;have u3:=qH u3 hb.size;clear hb;refine rc 2 (λKK a=>?_);go_simp;obtain⟨t1,t2,t3⟩:=zu W5 41 (madeCells uo n);refine a.out _ _ (Cs.below hHeld t1) (λhHeld=>?_);clear a KK;have J:w2.heap.size<=W5.heap.size:=h.size;have s:W5.heap.size≠g2:=zb;have h:=zc h t1;have u4:=zg t1 u2;generalize W5.alloc (.cells (madeCells uo n) 41)=W6 at*;generalize W5.heap.size=g1 at*;refine tk 5 ?_;obtain⟨F,G,L,N⟩:=ue u4 (.slice (some ⟨g1,0,none⟩) n n);refine rc 7 (λKK a=>?_);go_simp;refine a.out _ _ (Cs.far hHeld (vJ _ _ _ _) ⟨by show w.heap.size≠g2;omega,by show w.heap.size≠g2;omega,by show w.heap.size+1≠g2;omega,trivial⟩) (λhHeld=>?_);clear a KK;refine zN ?_;clear hHeld F G L N;go_wp2;go_meet;exact⟨g1,g2,rfl,s,J,t,zh.far (p:=⟨g2,1,none⟩) (zh.far (p:=⟨g2,0,none⟩) t2 s _) s _,ud u4 _ _,lU _ _ t h⟩
 case rest=>
  obtain⟨g1,g2,rfl,s,J,t,aj,o,hb⟩:=hcut;have hsz:=H.o.lt;have hl7:=aj.lt;have hwr:w.heap.size<=w2.heap.size:=R.o.size;have ac:=za (zc R.o hb);have ar:=za (zg hb H.o);have O:=za (zg hb C.o);obtain⟨p0,p1⟩:=O.o.c2;obtain⟨q0,q1⟩:=(zg hb E.o).c2;have aw:=za aj;have au:=za o;clear hb aj o R H C E HR af;go_wp2_with fail;refine(X.o _ ac.o).mono ?_;rintro e w5 ⟨g5,rfl,hg5,a0,hb⟩;have I:=za a0.rows;have j:xz (z8 zo) w5 41 g1 n (wX [] M n 0):=by rw [tV];exact TX (zg hb aw.o)
  have hB:=zc ac.o hb;have y:=zg hb ar.o;have o:=zg hb au.o;have a7:=qZ w5.heap.size w5;obtain⟨p0,p1⟩:=(zg hb O.o).c2;have hl5:=j.lt;have hl6:=o.lt;clear hb a0 q0 q1 ac ar O aw au;go_wp2_with fail;clear p0 p1
  go_loopg [27] (n+1) (λg ix wr=>∃(r:Nat),r<=n/\n<g+r/\ix=.int .i64 r/\xz (z8 zo) wr 41 g1 n (wX [] M n r)/\yx (z8 zo) wr (some ⟨g5,0,none⟩) m (vQ k m MB)/\Below w.heap.size w wr/\zh wr (w.heap.size+1+1) 28 #[.slice none 0 0,.int .i64 0]/\zh wr g2 28 #[.slice (some ⟨g1,0,none⟩) n n,.int .i64 (m:Int)])
  case atStart=>exact⟨0,qW _,zb,rfl,j,I.o,hB,y,o⟩
  case round=>
   clear j hB y o a7 I;obtain⟨r,hrn,hg,rfl,j,ai,hB,y,o⟩:=hrel;by_cases hlt:r<n
   ·obtain⟨ad,Bq,dq,rfl,-,hc,hv⟩:=av.o.row hB hlt;have a8:decide ((r:Int)<(n:Int))=true:=decide_eq_true zb;have i2:(0:Int)<=(r:Int):=zb;have i3:(r:Int)<(n:Int):=zb;obtain⟨p0,p1⟩:=o.c2;have h:=(qZ wr.heap.size wr).drew;have Z:=za (j.below (y7 zZ) h);have I:=za (ai.below (y7 zZ) h);have HV:=za (zR.keep hv h);have ab:=za (zc hB h);have ao:=za (zg h y);have H:=za (zg h o);have a4:=za (an.o r hlt);clear j ai hv hB y o h;go_wp2_with fail;refine rg (zk p0 zQ) (λhHeld=>?_);clear p0 p1 hc;generalize wr.drew=D2 at*;refine tk 0 ?_;refine tk 1 ?_;refine tk 2 ?_;refine tk 3 ?_;refine tk 4 ?_;refine rc 5 (λKK a=>?_);go_simp;(with_reducible refine(Y.out _ _ _ _ _ r hlt ab.o I.o HV.o).mono ?_);rintro e w7 ⟨g7,rfl,hg7,a1,hb⟩;refine a.out _ _ (Cs.below hHeld hb) (λhHeld=>?_);clear a KK;have U:=Z.o.below (y7 zZ) hb;have ak:=xz.set_ (y7 zZ) U hlt (xe a1) (a5.o _);rw [tX [] M n r ae.o hlt _ a4.o] at ak;obtain⟨q0,F,G⟩:=U.ready hlt;have P:zP g1 w7 (w7.setCell ⟨g1,r,none⟩ (.slice (some ⟨g7,0,none⟩) m m)):=zP.of_far ((yb.refl g1 w7).set_ r _);have aa:=I.o.below (y7 zZ) hb;have a2:∃cs,zh w7 g1 41 cs/\∀u ∈ cs.toList,xp u:=by obtain⟨cs,h1,h2,_⟩:=U.blk;exact⟨cs,h1,h2⟩
    have a6:=za ak;have al:zd (yx (z8 zo) (w7.setCell ⟨g1,r,none⟩ (.slice (some ⟨g7,0,none⟩) m m)) (some ⟨g5,0,none⟩) m (vQ k m MB)):=by
     obtain⟨cs,h1,h2⟩:=a2;exact aa.off (λad e=>by injection e with e;subst e;show g5≠g1;omega) P (λh3=>Zq zZ h3 h1 h2 P)
    have a3:=za (zM (p:=⟨g1,r,none⟩) (.slice (some ⟨g7,0,none⟩) m m) (show w.heap.size<=g1 by omega) (zc ab.o hb));have ap:=za (zh.far (p:=⟨g1,r,none⟩) (zg hb ao.o) (by show w.heap.size+1+1≠g1;omega) (.slice (some ⟨g7,0,none⟩) m m));have aq:=za (zh.far (p:=⟨g1,r,none⟩) (zg hb H.o) (by show g2≠g1;omega) (.slice (some ⟨g7,0,none⟩) m m));clear hb U ak a1 Z I ab ao H HV aa a2 P;refine tk 6 ?_;refine rc 7 (λKK a=>?_);go_simp;refine a.out _ _ ?_ (λhHeld=>?_)
    ·refine Cs.far hHeld ((yb.refl g1 _).set_ r _) ⟨?_,trivial⟩;show g2≠g1;omega
    clear a KK;refine zN ?_;clear hHeld F G;go_wp2;go_roundg (n - r)
    case measure=>omega
    case rel=>exact⟨r+1,zb,zb,by go_num,a6.o,al.o,a3.o,ap.o,aq.o⟩
   ·have hr:r=n:=zb;subst hr;have a8:decide ((r:Int)<(r:Int))=false:=zA;have HM:=za (Yu (tW [] M r ae.o▸j) am.o hn hm);obtain⟨p0,p1⟩:=o.c2;obtain⟨F,G,L,N⟩:=ue y (.slice (some ⟨g1,0,none⟩) r r);obtain⟨r0,r1⟩:=(ud y (.slice (some ⟨g1,0,none⟩) r r) (.int .i64 (m:Int))).c2;have HG:=za (kk HM.o (λad e=>by injection e with e;subst e;show w.heap.size+1+1<g1;omega) y hB zb);clear j ai hB y o;go_wp2;refine bodyPost_ret (v:=.tuple #[.agg #[.slice (some ⟨g1,0,none⟩) r r,.int .i64 (m:Int)],.bool true]) (by simp [results,results14,go_sem,r0,r1]) rfl ?_;exact HG.o
end
