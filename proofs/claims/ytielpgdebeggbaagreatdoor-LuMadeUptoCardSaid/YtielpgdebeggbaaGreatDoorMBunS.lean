/- What this claim leans on. -/
import Derived.Test.YtielpgdebeggbaaGreatDoorMBunN
import Derived.BigRegion
set_option linter.unusedVariables false
set_option linter.unusedSimpArgs false
namespace Go.Proofs.YtielpgdebeggbaaGreatDoor
open Go Go.RowKit Go.Proofs.Tryz
set_option maxHeartbeats 16000000
set_option maxRecDepth 100000
theorem Tv (x k:Nat)(A:ze)(n c:Nat)(w:World)(hA:zq w x A n c)(hn:n<=549755813888)(hk:k<=65536):
  Calls prog 146 #[.agg #[.slice A n c],.int .i64 k] w (gl w (2^k*x) true):=by
 obtain⟨i0,av,a3,a4,a5⟩:=info_parts nF;have aa:=hA.len;have ak:=zb aa;have HA:=zk w (λw' hb=>hA.below hb);have HK:=ms k;obtain⟨q,hq⟩:∃q,k / 64=q:=⟨_,rfl⟩;obtain⟨r,hr⟩:∃r,k%64=r:=⟨_,rfl⟩;rw [hq,hr] at HK;have aj:=zb HK;have J:r<64:=za;have hq1:q<=1024:=za;obtain⟨N,hN⟩:∃N,q+n+1=N:=⟨_,rfl⟩;have hN0:N<=549755814913:=za;have ap:(q:Int)+(n:Int)+1=(N:Int):=za;have aq:IntKind.i64.wrap (N:Int)=(N:Int):=QL _ za;have M:=zb hN;obtain⟨Z,hZ⟩:∃Z,madeCells (Value.cells (.int .u64 0)) (N*i0.size)=Z:=⟨_,rfl⟩;have HZ:zd (Z.toList=zH .u64 (List.replicate N 0)):=by
  show _=_;rw [<-hZ,a4,xO];exact(toList_madeCells_one _ _).trans (by simp [zH])
 have az:∀W:World,(Instr.makeSlice 46 (.int .i64 (N:Int)) (.int .i64 (N:Int))).run prog W=.ok (.slice (some ⟨W.heap.size,0,none⟩) N N) (W.alloc (.cells Z 133)):=λW=>by
  rw [<-hZ];exact oN _ _ i0 _ underlying46 av a3 _ _ N N (qX _) (by rw [a5];omega) za W
 have hkd:decide ((k:Int)<0)=false:=zF;have hkd2:decide ((65536:Int)<(k:Int))=false:=by simp;omega
 have hkd3:decide ((k:Int)>65536)=false:=by simp;omega
 have ab:(k:Int) / 64=(q:Int):=za;have ac:(k:Int)%64=(r:Int):=za;have a0:(k:Int).tdiv 64=(q:Int):=by rw [Int.tdiv_eq_ediv_of_nonneg za];exact ab
 have a1:(k:Int).tmod 64=(r:Int):=by rw [XB za];exact ac
 clear hZ hA aa hN hq hr HK;go_enter func146,ntmps146;go_wp2_with fail;generalize hW:(w.alloc (.cells #[.slice A n c] 48)).alloc (.cells #[.slice none 0 0] 48)=W0;obtain⟨b1,b2,b4,b5⟩:=yv w 48 48 #[.slice A n c] #[.slice none 0 0];rw [hW] at b1 b2 b4 b5;have g1:W0.cell? ⟨w.heap.size,0,none⟩=some (.slice A n c):=b2.cell 0;clear hW b2;refine(ud x _ _ _ _).mono ?_;rintro e w2 ⟨rfl,hb⟩;have hB:=zc b1 hb;have H:=zg hb b4;have g1:=zw hb g1;have a2:=hb.size;have hgs:w.heap.size+2<=w2.heap.size:=za;clear hb a2 b1 b4 b5;have ga:∀o,(w2.alloc o).cell? ⟨w.heap.size,0,none⟩=some (.slice A n c):=λo=>xF o g1;go_wp2_with fail;clear ga;have S:=zh.new w2 133 Z;have hB:=xu (.cells Z 133) hB;have H:=H.alloc (.cells Z 133);have g1:=xF (.cells Z 133) g1;generalize w2.alloc (.cells Z 133)=W1 at*;generalize w2.heap.size=gs at*;clear az ap aq ab ac a0 a1;have am:0<2^r:=xA r
 go_loopg [9,10,31] (n + 1) (fun g _ _ ix wr => ∃ (i cc : Nat) (cs : Array Value) (out : List Nat),i ≤ n ∧ n < g + i ∧ ix = .int .i64 i ∧ zd (lM x (2 ^ r) i out cc) ∧ zd (cs.toList = zH .u64 (List.replicate q 0 ++ out) ++ .int .u64 cc :: zH .u64 (List.replicate (n - i) 0)) ∧ zh wr gs 133 cs ∧
   Below w.heap.size w wr/\wr.cell? ⟨w.heap.size,0,none⟩=some (.slice A n c)/\zh wr (w.heap.size+1) 48 #[.slice none 0 0])
 case atStart=>
  refine⟨0,0,Z,[],za,za,rfl,lM.start x _ am,?_,S,hB,g1,H⟩;show Z.toList=zH .u64 (List.replicate q 0++[])++Value.int .u64 0::zH .u64 (List.replicate (n - 0) 0);rw [HZ.o,List.append_nil,Nat.sub_zero,<-UP,<-cG,List.replicate_append_replicate,show q+(n+1)=N from by have:=M.o;omega]
 case round=>
  clear hB g1 H S;obtain⟨i,cc,cs,out,hi,hg,rfl,t,F,y,hB,g1,B⟩:=hrel;have I:=t.o.len;have u:(zH .u64 (List.replicate q 0++out)).length=q+i:=by rw [vd,qB,yA,I]
  by_cases hlt:i<n
  ·have R:=(HA.o wr hB).1;obtain⟨ad,rfl,U,hx⟩:=sy R hlt;rw [nD] at hx;have ar:=wU x i;have K:=zb (t.o.step (s:=wd x i*2^r+cc) rfl);have V:=t.o.carry;obtain⟨a,ha⟩:∃a,wd x i=a:=⟨_,rfl⟩;rw [ha] at hx ar K;have O:=zb (og (a:=a) J V);have P:=zb (PX (a:=a) J V);obtain⟨m,hm⟩:∃m,n - i=m+1:=⟨n - i - 1,za⟩;have j:=F.o;rw [hm,UP] at j;have af:cs.size=q+i+(m+2):=by
    have h:=congrArg List.length j;rw [XO] at h;rw [h,qB,u,xK,xK,vd,yA]
   have ag:cs[q+i]?=some (.int .u64 cc):=by
    rw [<-QS,j,QJ za,u,XK];rfl
   have ah:cs[q+i+1]?=some (.int .u64 0):=by
    rw [<-QS,j,QJ za,u,show q+i+1 - (q+i)=1 from by omega];rfl
   have q1:wr.cell? ⟨gs,q+i,none⟩=some (.int .u64 cc):=(y.cell _).trans ag;have q2:=y.frozen (q+i);have ai:=zb j;have al:=zb u;have HM:=zb hm;have hNn:q+i+2<=N:=by have:=M.o;omega
   obtain⟨i1,i2,i3,i4,i5,i6,i7⟩:(0:Int)<=(i:Int)/\(i:Int)<(n:Int)/\(0:Int)<=(q:Int)+(i:Int)/\(q:Int)+(i:Int)<(N:Int)/\(0:Int)<=(q:Int)+(i:Int)+1/\(q:Int)+(i:Int)+1<(N:Int)/\q+i+1<N:=za;obtain⟨j1,j2,j3,j4,j5⟩:IntKind.i64.wrap ((q:Int)+(i:Int))=(q:Int)+(i:Int)/\IntKind.i64.wrap ((q:Int)+(i:Int)+1)=(q:Int)+(i:Int)+1/\IntKind.i64.wrap (64 - (r:Int))=64 - (r:Int)/\((q:Int)+(i:Int)).toNat=q+i/\((q:Int)+(i:Int)+1).toNat=q+i+1:=⟨QL _ za,QL _ za,QL _ za,za,za⟩;clear ha t F R j u hm af ag U I;go_wp2_with fail;go_region;rw [O.o];obtain⟨s1,e1⟩:∃s1,(a*2^r+cc)%18446744073709551616=s1:=⟨_,rfl⟩;obtain⟨s2,e2⟩:∃s2,(a*2^r+cc) / 18446744073709551616=s2:=⟨_,rfl⟩;rw [e1,e2] at K;rw [e2] at P;rw [e1];clear O e1 e2 q1 q2;have z:=(y.set_ (q+i) (.int .u64 (s1:Int))).drew;have ax:=(B.far (p:=⟨gs,q+i,none⟩) (by show w.heap.size+1≠gs;omega) (.int .u64 (s1:Int))).drew;have an:=(zQ (p:=⟨gs,q+i,none⟩) (.int .u64 (s1:Int)) (by show w.heap.size<=gs;omega) hB).drew;have g2:((wr.setCell ⟨gs,q+i,none⟩ (.int .u64 (s1:Int))).drew).cell? ⟨w.heap.size,0,none⟩=some (.slice (some ad) n c):=yk _ (by show w.heap.size≠gs;omega) g1;generalize (wr.setCell ⟨gs,q+i,none⟩ (.int .u64 (s1:Int))).drew=w3 at*;have q1:w3.cell? ⟨gs,q+i+1,none⟩=some (.int .u64 0):=(z.cell _).trans (by rw [qK za];exact ah);have q2:=z.frozen (q+i+1);have hv2:=P.o;clear ah y B hB g1 hx;go_wp2_with fail;have X:=z.set_ (q+i+1) (.int .u64 (s2:Int));have ay:=ax.far (p:=⟨gs,q+i+1,none⟩) (by show w.heap.size+1≠gs;omega) (.int .u64 (s2:Int));have ao:=zQ (p:=⟨gs,q+i+1,none⟩) (.int .u64 (s2:Int)) (by show w.heap.size<=gs;omega) an;have g5:=yk (q:=⟨gs,q+i+1,none⟩) (.int .u64 (s2:Int)) (by show w.heap.size≠gs;omega) g2;go_roundg (n - i)
   case measure=>omega
   case rel=>
    refine⟨i+1,s2,_,_,za,za,by go_num,K.o,?_,X,ao,g5,ay⟩;show _=_;rw [QO,QO,ai.o,lm al.o,<-xQ,eG,show n - (i+1)=m from by have:=HM.o;omega,xQ];rfl
  ·have aw:i=n:=za;subst aw;have j:=F.o;rw [XK] at j;have e:=t.o.done (q:=q) (by have:=ak.o;omega);rw [aj.o] at e;have D:cs.toList=zH .u64 (List.replicate q 0++out++[cc]):=by rw [j,eG];rfl
   have C:(List.replicate q 0++out++[cc]).length=N:=by
    have:=M.o;simp [I];omega
   have E:cs.size=N:=by
    have h:=congrArg List.length D;rw [XO,vd,C] at h;exact h
   have Y:zK 18446744073709551616 (List.replicate q 0++out++[cc]):=by
    have h:=t.o.carry;have h2:2^r<=2^63:=qA zf za;exact((zK.zeros zf q).append t.o.dgs).append (by intro d hd;simp at hd;subst hd;omega)
   have T:=eN (some ⟨gs,0,none⟩) N N wr.heap.size _ wr (iL y E (by rw [<-E,<-XO,List.take_length];exact D) C) Y (qX _) za za;rw [e] at T;have HT:=zb T;have au:wr.cell? ⟨w.heap.size+1,0,none⟩=some (.slice none 0 0):=B.cell 0;have hf1:=B.frozen 0;clear T y j D C E Y t F e B g1 I u;go_wp2_with fail;refine HT.o.mono ?_;rintro e w2 ⟨A1,c1,rfl,ae,h1,h2,Q,rfl⟩;have G:=bC hB (p:=w.heap.size+1) (gs:=gs) za za ae h1 h2 Q za (.slice A1 (dg 18446744073709551616 (2^k*x)).length c1);have HG:zd (gl w (2^k*x) true (.returned (.tuple #[.agg #[.slice A1 (dg 18446744073709551616 (2^k*x)).length c1],.bool true])) (wr.setCell ⟨w.heap.size+1,0,none⟩ (.slice A1 (dg 18446744073709551616 (2^k*x)).length c1))):=⟨_,_,_,rfl,G.2.1,G.1,G.2.2⟩;clear G ae h1 h2 Q;obtain⟨L,hL⟩:∃L,(dg 18446744073709551616 (2^k*x)).length=L:=⟨_,rfl⟩;rw [hL] at HG⊢;clear hL;go_wp2;refine bodyPost_ret (v:=.tuple #[.agg #[.slice A1 L c1],.bool true]) (by simp [results,results146,go_sem,au]) rfl ?_;exact HG.o
theorem Rm (w:World):zq w 0 none 0 0:=⟨zN.none_,qX _,za⟩
theorem Rs (x k:Nat)(A:ze)(n c:Nat)(w:World)(hA:zq w x A n c)(hn:n<=549755813888)(hk:bitLen x<=k):
  Calls prog 149 #[.agg #[.slice A n c],.int .i64 k] w (xz w 0):=by
 have HC:=zk w (λw' hb=>U1 x A n c w' (hA.below hb) za);obtain⟨z,hz⟩:∃z,bitLen x=z:=⟨_,rfl⟩;rw [hz] at HC hk;have hd:decide ((z:Int)<=(k:Int))=true:=by simpa using hk
 clear hz hA;go_enter func149,ntmps149;go_wp2_with fail;generalize hW:(w.alloc (.cells #[.slice A n c] 48)).alloc (.cells #[.slice none 0 0] 48)=W0;obtain⟨b1,b2,b4,b5⟩:=yv w 48 48 #[.slice A n c] #[.slice none 0 0];rw [hW] at b1 b2 b4 b5;clear hW b2;refine(HC.o _ b1).mono ?_;rintro e w1 ⟨rfl,hb⟩;have hB:=zc b1 hb;have hk:=zg hb b4;have a:w1.cell? ⟨w.heap.size+1,0,none⟩=some (.slice none 0 0):=hk.cell 0;have hf1:=hk.frozen 0;have HG:zd (xz w 0 (.returned (.agg #[.slice none 0 0])) (w1.setCell ⟨w.heap.size+1,0,none⟩ (.slice none 0 0))):=⟨_,_,_,rfl,Rm _,zQ _ (by show _<=w.heap.size+1;omega) hB,sC.none_ _⟩;clear hB hk hb b1 b4;go_wp2;refine bodyPost_ret (v:=.agg #[.slice none 0 0]) (by simp [results,results149,go_sem,a]) rfl ?_;exact HG.o
theorem mN (x k:Nat)(A:ze)(n c:Nat)(w:World)(hA:zq w x A n c)(hn:n<=549755813888)(hk:k<bitLen x):
  Calls prog 149 #[.agg #[.slice A n c],.int .i64 k] w (xz w (x / 2^k)):=by
 obtain⟨i0,ab,ak,al,am⟩:=info_parts nF;have t:=hA.len;have X:bitLen x<=64*n:=cR _ _ (by
  have h:=ww (b:=18446744073709551616) zf x;rw [t,show(18446744073709551616:Nat)=2^64 from rfl,<-jK] at h;exact h)
 have HC:=(λw' (hb:Below w.heap.size w w')=>U1 x A n c w' (hA.below hb) za);have HA:=zk w (λw' hb=>hA.below hb);obtain⟨q,hq⟩:∃q,k / 64=q:=⟨_,rfl⟩;obtain⟨r,hr⟩:∃r,k%64=r:=⟨_,rfl⟩;have M:r<64:=za;have hqn:q<n:=za;obtain⟨z,hz⟩:∃z,bitLen x=z:=⟨_,rfl⟩;rw [hz] at HC hk X;have HC:=zb HC;have hd:decide ((z:Int)<=(k:Int))=false:=by simp;omega
 have hzk:z<=35184372088832:=za;have W:∀i,wd (x / 2^k) i=wd x (q+i) / 2^r+2^(64 - r)*(wd x (q+i+1)%2^r):=λi=>by rw [oI,hq,hr]
 have HW:=zb W;obtain⟨N,hN⟩:∃N,n - q=N:=⟨_,rfl⟩;have C:0<N/\N<=n:=za;obtain⟨C,hNn⟩:=C;have S:(n:Int) - (q:Int)=(N:Int):=za;have U:IntKind.i64.wrap (N:Int)=(N:Int):=QL _ za;obtain⟨Z,hZ⟩:∃Z,madeCells (Value.cells (.int .u64 0)) (N*i0.size)=Z:=⟨_,rfl⟩;have HZ:zd (Z.size=N):=by show _=_;rw [<-hZ,size_madeCells,al,xO]
 have af:∀W:World,(Instr.makeSlice 46 (.int .i64 (N:Int)) (.int .i64 (N:Int))).run prog W=.ok (.slice (some ⟨W.heap.size,0,none⟩) N N) (W.alloc (.cells Z 133)):=λW=>by
  rw [<-hZ];exact oN _ _ i0 _ underlying46 ab ak _ _ N N (qX _) (by rw [am];omega) za W
 have HL:zd ((dg 18446744073709551616 (x / 2^k)).length<=N):=by
  refine lI zf _ _ ?_;have h:=ww (b:=18446744073709551616) zf x;rw [t] at h;refine(QA (xA k)).2 ?_;rw [<-ms k,hq,hr,<-qL,<-xW,show N+q=n from by omega];exact qJ h (Nat.le_mul_of_pos_right _ (xA r))
 have hkd:decide ((k:Int)<0)=false:=zF;have I:(k:Int) / 64=(q:Int):=za;have J:(k:Int)%64=(r:Int):=za;have ag:(k:Int).tdiv 64=(q:Int):=by rw [Int.tdiv_eq_ediv_of_nonneg za];exact I
 have ah:(k:Int).tmod 64=(r:Int):=by rw [XB za];exact J
 clear hZ hA t hN hq hr hz W;go_enter func149,ntmps149;go_wp2_with fail;generalize hW:(w.alloc (.cells #[.slice A n c] 48)).alloc (.cells #[.slice none 0 0] 48)=W0;obtain⟨b1,b2,b4,b5⟩:=yv w 48 48 #[.slice A n c] #[.slice none 0 0];rw [hW] at b1 b2 b4 b5;have g1:W0.cell? ⟨w.heap.size,0,none⟩=some (.slice A n c):=b2.cell 0;clear hW b2;refine(HC.o _ b1).mono ?_;rintro e w1 ⟨rfl,hb⟩;have hB:=zc b1 hb;have d:=zg hb b4;have g3:=zw hb g1;have ai:=hb.size;clear hb g1 b1 b4;go_wp2_with fail;refine(ud x _ _ _ _).mono ?_;rintro e w2 ⟨rfl,hb⟩;have hB:=zc hB hb;have d:=zg hb d;have g1:=zw hb g3;have aj:=hb.size;have hgs:w.heap.size+2<=w2.heap.size:=za;clear hb g3 ai aj b5;go_wp2_with fail;have D:=zh.new w2 133 Z;have hB:=xu (.cells Z 133) hB;have d:=d.alloc (.cells Z 133);have g1:=xF (.cells Z 133) g1;generalize w2.alloc (.cells Z 133)=W1 at*;generalize w2.heap.size=gs at*;clear af S U I J ag ah
 rename_i hh1 _ _ hh2
 clear hh1
 go_loopg [8,29] (N + 1) (fun g _ ix wr => ∃ (i : Nat) (cs : Array Value),i ≤ N ∧ N < g + i ∧ ix = .int .i64 i ∧ cs.size = N ∧ cs.toList.take i = zH .u64 (vT (x / 2 ^ k) i) ∧ zh wr gs 133 cs ∧
   Below w.heap.size w wr/\wr.cell? ⟨w.heap.size,0,none⟩=some (.slice A n c)/\zh wr (w.heap.size+1) 48 #[.slice none 0 0])
 case atStart=>exact⟨0,Z,za,za,rfl,HZ.o,rfl,D,hB,g1,d⟩
 case round=>
  clear hB g1 d D;obtain⟨i,cs,hi,hg,rfl,hsz,o,m,hB,g1,j⟩:=hrel;by_cases hlt:i<N
  ·have E:=wU x (q+i);have V:=wU x (q+i+1);have WX:=(λw' (h:Below w.heap.size w w')=>kv x A n c (q+i) w' (HA.o w' h));have WY:=(λw' (h:Below w.heap.size w w')=>kv x A n c (q+i+1) w' (HA.o w' h));rw [Int.natCast_add] at WX;rw [show((q+i+1:Nat):Int)=(q:Int)+(i:Int)+1 from by omega] at WY;have s:=zb (HW.o i);obtain⟨a,ha⟩:∃a,wd x (q+i)=a:=⟨_,rfl⟩;obtain⟨b,hb⟩:∃a,wd x (q+i+1)=a:=⟨_,rfl⟩;rw [ha] at WX E s;rw [hb] at WY V s;have P:=zb WX;have Q:=zb WY;have y:=zb hsz;have O:=zb o;obtain⟨u,hu⟩:∃u,cs[i]?=some u:=⟨cs[i]' za,QU za⟩;have HU:=zb hu;clear WX WY ha hb o hu hsz;have i1:(0:Int)<=(i:Int):=za;have i2:(i:Int)<(N:Int):=za;obtain⟨j1,j2,j3⟩:IntKind.i64.wrap ((q:Int)+(i:Int))=(q:Int)+(i:Int)/\IntKind.i64.wrap ((q:Int)+(i:Int)+1)=(q:Int)+(i:Int)+1/\IntKind.i64.wrap (64 - (r:Int))=64 - (r:Int):=⟨QL _ za,QL _ za,QL _ za⟩;go_wp2_with fail;have F:=hB.drew;have H:=j.drew;have Y:=m.drew
   go_region_held3 (fun w' => Below w.heap.size w w' ∧ w'.cell? ⟨w.heap.size,0,none⟩ = some (.slice A n c) ∧ zh w' (w.heap.size + 1) 48 #[.slice none 0 0])
    (first|(exact⟨F,g1,H⟩)|(go_split_ands;(repeat' apply And.intro);all_goals (first|exact zm|exact zc zm hb|exact zw hb zm|exact zg hb zm|exact zQ _ (by simp;omega) zm|exact yk _ (by simp;omega) zm|exact zh.far zm (by simp;omega) _)))
    (first
      |(go_at_call 126;with_reducible refine(P.o _ (by first|exact zm|exact YI zm)).mono ?_;rintro e w' ⟨rfl,hb⟩;have d:zh w' gs 133 cs:=zg hb zm;have q1:=(d.cell i).trans HU.o;have q2:=d.frozen i)
      |(go_at_call 126;with_reducible refine(Q.o _ (by first|exact zm|exact YI zm)).mono ?_;rintro e w' ⟨rfl,hb⟩;have d:zh w' gs 133 cs:=zg hb zm;have q1:=(d.cell i).trans HU.o;have q2:=d.frozen i))
   rename_i hH
   obtain⟨R,g3,ad⟩:=hH;have ae:=d.set_ i (.int .u64 (bits .or .u64 ((a:Int) / 2^r) (IntKind.u64.wrap ((b:Int)*2^(64 - r)))));have HV:zd ((cs.setIfInBounds i (.int .u64 (bits .or .u64 ((a:Int) / 2^r) (IntKind.u64.wrap ((b:Int)*2^(64 - r)))))).toList.take (i+1)=zH .u64 (vT (x / 2^k) (i+1))):=by
    show _=_;rw [Yb _ _ _ (by have:=y.o;omega),O.o,Zt,eG,s.o,UG E M]
   clear hb d q1 q2 F H Y hB g1 j m j1 j2 j3;go_wp2;go_roundg (N - i)
   case measure=>omega
   case rel=>exact⟨i+1,_,za,za,by go_num,by simpa using y.o,HV.o,ae,R,g3,ad⟩
  ·have ac:i=N:=za;subst ac;have e:=WN HL.o;have T:=eN (some ⟨gs,0,none⟩) i i wr.heap.size (vT (x / 2^k) i) wr (iL m hsz o (kn _ _)) (WO _ _) (qX _) za za;rw [e] at T;have HT:=zb T;have aa:wr.cell? ⟨w.heap.size+1,0,none⟩=some (.slice none 0 0):=j.cell 0;have hf1:=j.frozen 0;clear T m hsz o e j g1;go_wp2_with fail;refine HT.o.mono ?_;rintro e w2 ⟨A1,c1,rfl,K,h1,h2,B,rfl⟩;have G:=bC hB (p:=w.heap.size+1) (gs:=gs) za za K h1 h2 B za (.slice A1 (dg 18446744073709551616 (x / 2^k)).length c1);have HG:zd (xz w (x / 2^k) (.returned (.agg #[.slice A1 (dg 18446744073709551616 (x / 2^k)).length c1])) (wr.setCell ⟨w.heap.size+1,0,none⟩ (.slice A1 (dg 18446744073709551616 (x / 2^k)).length c1))):=⟨_,_,_,rfl,G.2.1,G.1,G.2.2⟩;clear G K h1 h2 B;obtain⟨L,hL⟩:∃L,(dg 18446744073709551616 (x / 2^k)).length=L:=⟨_,rfl⟩;rw [hL] at HG⊢;clear hL;go_wp2;refine bodyPost_ret (v:=.agg #[.slice A1 L c1]) (by simp [results,results149,go_sem,aa]) rfl ?_;exact HG.o
theorem Pi (x:Nat):x<2^bitLen x:=by
 unfold bitLen
 split
 ·rename_i h;subst h;decide
 ·exact Nat.lt_log2_self
theorem Ws (x k:Nat)(A:ze)(n c:Nat)(w:World)(hA:zq w x A n c)(hn:n<=549755813888):
  Calls prog 149 #[.agg #[.slice A n c],.int .i64 k] w (xz w (x / 2^k)):=by
 by_cases h:bitLen x<=k
 ·rw [xM (qJ (Pi x) (qA zf h))];exact Rs x k A n c w hA hn h
 ·exact mN x k A n c w hA hn za
theorem Sz.shl' {K x k M:Nat}(h:Sz K x)(hk:k<=64*M):Sz (K+M) (2^k*x):=by
 unfold Sz at*;have h1:2^k<=18446744073709551616^M:=by
  rw [show(18446744073709551616:Nat)=2^64 from rfl,<-jK];exact qA zf hk
 rw [xW,QK (18446744073709551616^K)];exact QI (qS x h1) (Nat.mul_lt_mul_of_pos_left h (yZ zf))
