/- What this claim leans on. -/
import Derived.Test.YtipmllfnpldbdaaGreatDoorYBunN
import Derived.BigRegion
set_option linter.unusedVariables false
set_option linter.unusedSimpArgs false
namespace Go.Proofs.YtipmllfnpldbdaaGreatDoor
open Go Go.RowKit Go.Proofs.Tryz
set_option maxHeartbeats 16000000
set_option maxRecDepth 100000
theorem Zj (x k:Nat)(A:zf)(n c:Nat)(w:World)(hA:zp w x A n c)(hn:n<=549755813888)(hk:k<=65536):
  Calls prog 135 #[.agg #[.slice A n c],.int .i64 k] w (mM w (2^k*x) true):=by
 obtain⟨i0,av,a3,a4,a5⟩:=info_parts rN;have aa:=hA.len;have ak:=zd aa;have HA:=zn w (λw' hb=>hA.below hb);have HK:=qs k;obtain⟨q,hq⟩:∃q,k / 64=q:=⟨_,rfl⟩;obtain⟨r,hr⟩:∃r,k%64=r:=⟨_,rfl⟩;rw [hq,hr] at HK;have aj:=zd HK;have J:r<64:=za;have hq1:q<=1024:=za;obtain⟨N,hN⟩:∃N,q+n+1=N:=⟨_,rfl⟩;have hN0:N<=549755814913:=za;have ap:(q:Int)+(n:Int)+1=(N:Int):=za;have aq:IntKind.i64.wrap (N:Int)=(N:Int):=QD _ za;have M:=zd hN;obtain⟨Z,hZ⟩:∃Z,madeCells (Value.cells (.int .u64 0)) (N*i0.size)=Z:=⟨_,rfl⟩;have HZ:zg (Z.toList=zw .u64 (List.replicate N 0)):=by
  show _=_;rw [<-hZ,a4,xO];exact(toList_madeCells_one _ _).trans (by simp [zw])
 have az:∀W:World,(Instr.makeSlice 54 (.int .i64 (N:Int)) (.int .i64 (N:Int))).run prog W=.ok (.slice (some ⟨W.heap.size,0,none⟩) N N) (W.alloc (.cells Z 141)):=λW=>by
  rw [<-hZ];exact uv _ _ i0 _ underlying54 av a3 _ _ N N (qX _) (by rw [a5];omega) za W
 have hkd:decide ((k:Int)<0)=false:=zD;have hkd2:decide ((65536:Int)<(k:Int))=false:=by simp;omega
 have hkd3:decide ((k:Int)>65536)=false:=by simp;omega
 have ab:(k:Int) / 64=(q:Int):=za;have ac:(k:Int)%64=(r:Int):=za;have a0:(k:Int).tdiv 64=(q:Int):=by rw [Int.tdiv_eq_ediv_of_nonneg za];exact ab
 have a1:(k:Int).tmod 64=(r:Int):=by rw [yG za];exact ac
 clear hZ hA aa hN hq hr HK;go_enter func135,ntmps135;go_wp2_with fail;generalize hW:(w.alloc (.cells #[.slice A n c] 56)).alloc (.cells #[.slice none 0 0] 56)=W0;obtain⟨b1,b2,b4,b5⟩:=yb w 56 56 #[.slice A n c] #[.slice none 0 0];rw [hW] at b1 b2 b4 b5;have g1:W0.cell? ⟨w.heap.size,0,none⟩=some (.slice A n c):=b2.cell 0;clear hW b2;refine(wN x _ _ _ _).mono ?_;rintro e w2 ⟨rfl,hb⟩;have hB:=ze b1 hb;have H:=zj hb b4;have g1:=zq hb g1;have a2:=hb.size;have hgs:w.heap.size+2<=w2.heap.size:=za;clear hb a2 b1 b4 b5;have ga:∀o,(w2.alloc o).cell? ⟨w.heap.size,0,none⟩=some (.slice A n c):=λo=>yo o g1;go_wp2_with fail;clear ga;have S:=zi.new w2 141 Z;have hB:=ym (.cells Z 141) hB;have H:=H.alloc (.cells Z 141);have g1:=yo (.cells Z 141) g1;generalize w2.alloc (.cells Z 141)=W1 at*;generalize w2.heap.size=gs at*;clear az ap aq ab ac a0 a1;have am:0<2^r:=xZ r
 go_loopg [9,10,31] (n + 1) (fun g _ _ ix wr => ∃ (i cc : Nat) (cs : Array Value) (out : List Nat),i ≤ n ∧ n < g + i ∧ ix = .int .i64 i ∧ zg (p7 x (2 ^ r) i out cc) ∧ zg (cs.toList = zw .u64 (List.replicate q 0 ++ out) ++ .int .u64 cc :: zw .u64 (List.replicate (n - i) 0)) ∧ zi wr gs 141 cs ∧
   Below w.heap.size w wr/\wr.cell? ⟨w.heap.size,0,none⟩=some (.slice A n c)/\zi wr (w.heap.size+1) 56 #[.slice none 0 0])
 case atStart=>
  refine⟨0,0,Z,[],za,za,rfl,p7.start x _ am,?_,S,hB,g1,H⟩;show Z.toList=zw .u64 (List.replicate q 0++[])++Value.int .u64 0::zw .u64 (List.replicate (n - 0) 0);rw [HZ.o,List.append_nil,Nat.sub_zero,<-aB,<-kR,List.replicate_append_replicate,show q+(n+1)=N from by have:=M.o;omega]
 case round=>
  clear hB g1 H S;obtain⟨i,cc,cs,out,hi,hg,rfl,t,F,y,hB,g1,B⟩:=hrel;have I:=t.o.len;have u:(zw .u64 (List.replicate q 0++out)).length=q+i:=by rw [xt,qA,QE,I]
  by_cases hlt:i<n
  ·have R:=(HA.o wr hB).1;obtain⟨ad,rfl,U,hx⟩:=ug R hlt;rw [rM] at hx;have ar:=xl x i;have K:=zd (t.o.step (s:=wd x i*2^r+cc) rfl);have V:=t.o.carry;obtain⟨a,ha⟩:∃a,wd x i=a:=⟨_,rfl⟩;rw [ha] at hx ar K;have O:=zd (sI (a:=a) J V);have P:=zd (VT (a:=a) J V);obtain⟨m,hm⟩:∃m,n - i=m+1:=⟨n - i - 1,za⟩;have j:=F.o;rw [hm,aB] at j;have af:cs.size=q+i+(m+2):=by
    have h:=congrArg List.length j;rw [XL] at h;rw [h,qA,u,xY,xY,xt,QE]
   have ag:cs[q+i]?=some (.int .u64 cc):=by
    rw [<-QP,j,qD za,u,xW];rfl
   have ah:cs[q+i+1]?=some (.int .u64 0):=by
    rw [<-QP,j,qD za,u,show q+i+1 - (q+i)=1 from by omega];rfl
   have q1:wr.cell? ⟨gs,q+i,none⟩=some (.int .u64 cc):=(y.cell _).trans ag;have q2:=y.frozen (q+i);have ai:=zd j;have al:=zd u;have HM:=zd hm;have hNn:q+i+2<=N:=by have:=M.o;omega
   obtain⟨i1,i2,i3,i4,i5,i6,i7⟩:(0:Int)<=(i:Int)/\(i:Int)<(n:Int)/\(0:Int)<=(q:Int)+(i:Int)/\(q:Int)+(i:Int)<(N:Int)/\(0:Int)<=(q:Int)+(i:Int)+1/\(q:Int)+(i:Int)+1<(N:Int)/\q+i+1<N:=za;obtain⟨j1,j2,j3,j4,j5⟩:IntKind.i64.wrap ((q:Int)+(i:Int))=(q:Int)+(i:Int)/\IntKind.i64.wrap ((q:Int)+(i:Int)+1)=(q:Int)+(i:Int)+1/\IntKind.i64.wrap (64 - (r:Int))=64 - (r:Int)/\((q:Int)+(i:Int)).toNat=q+i/\((q:Int)+(i:Int)+1).toNat=q+i+1:=⟨QD _ za,QD _ za,QD _ za,za,za⟩;clear ha t F R j u hm af ag U I;go_wp2_with fail;go_region;rw [O.o];obtain⟨s1,e1⟩:∃s1,(a*2^r+cc)%18446744073709551616=s1:=⟨_,rfl⟩;obtain⟨s2,e2⟩:∃s2,(a*2^r+cc) / 18446744073709551616=s2:=⟨_,rfl⟩;rw [e1,e2] at K;rw [e2] at P;rw [e1];clear O e1 e2 q1 q2;have z:=(y.set_ (q+i) (.int .u64 (s1:Int))).drew;have ax:=(B.far (p:=⟨gs,q+i,none⟩) (by show w.heap.size+1≠gs;omega) (.int .u64 (s1:Int))).drew;have an:=(zH (p:=⟨gs,q+i,none⟩) (.int .u64 (s1:Int)) (by show w.heap.size<=gs;omega) hB).drew;have g2:((wr.setCell ⟨gs,q+i,none⟩ (.int .u64 (s1:Int))).drew).cell? ⟨w.heap.size,0,none⟩=some (.slice (some ad) n c):=zS _ (by show w.heap.size≠gs;omega) g1;generalize (wr.setCell ⟨gs,q+i,none⟩ (.int .u64 (s1:Int))).drew=w3 at*;have q1:w3.cell? ⟨gs,q+i+1,none⟩=some (.int .u64 0):=(z.cell _).trans (by rw [qB za];exact ah);have q2:=z.frozen (q+i+1);have hv2:=P.o;clear ah y B hB g1 hx;go_wp2_with fail;have X:=z.set_ (q+i+1) (.int .u64 (s2:Int));have ay:=ax.far (p:=⟨gs,q+i+1,none⟩) (by show w.heap.size+1≠gs;omega) (.int .u64 (s2:Int));have ao:=zH (p:=⟨gs,q+i+1,none⟩) (.int .u64 (s2:Int)) (by show w.heap.size<=gs;omega) an;have g5:=zS (q:=⟨gs,q+i+1,none⟩) (.int .u64 (s2:Int)) (by show w.heap.size≠gs;omega) g2;go_roundg (n - i)
   case measure=>omega
   case rel=>
    refine⟨i+1,s2,_,_,za,za,by go_num,K.o,?_,X,ao,g5,ay⟩;show _=_;rw [xV,xV,ai.o,pK al.o,<-xX,lQ,show n - (i+1)=m from by have:=HM.o;omega,xX];rfl
  ·have aw:i=n:=za;subst aw;have j:=F.o;rw [xW] at j;have e:=t.o.done (q:=q) (by have:=ak.o;omega);rw [aj.o] at e;have D:cs.toList=zw .u64 (List.replicate q 0++out++[cc]):=by rw [j,lQ];rfl
   have C:(List.replicate q 0++out++[cc]).length=N:=by
    have:=M.o;simp [I];omega
   have E:cs.size=N:=by
    have h:=congrArg List.length D;rw [XL,xt,C] at h;exact h
   have Y:zC 18446744073709551616 (List.replicate q 0++out++[cc]):=by
    have h:=t.o.carry;have h2:2^r<=2^63:=qL zh za;exact((zC.zeros zh q).append t.o.dgs).append (by intro d hd;simp at hd;subst hd;omega)
   have T:=lW (some ⟨gs,0,none⟩) N N wr.heap.size _ wr (my y E (by rw [<-E,<-XL,List.take_length];exact D) C) Y (qX _) za za;rw [e] at T;have HT:=zd T;have au:wr.cell? ⟨w.heap.size+1,0,none⟩=some (.slice none 0 0):=B.cell 0;have hf1:=B.frozen 0;clear T y j D C E Y t F e B g1 I u;go_wp2_with fail;refine HT.o.mono ?_;rintro e w2 ⟨A1,c1,rfl,ae,h1,h2,Q,rfl⟩;have G:=jb hB (p:=w.heap.size+1) (gs:=gs) za za ae h1 h2 Q za (.slice A1 (dg 18446744073709551616 (2^k*x)).length c1);have HG:zg (mM w (2^k*x) true (.returned (.tuple #[.agg #[.slice A1 (dg 18446744073709551616 (2^k*x)).length c1],.bool true])) (wr.setCell ⟨w.heap.size+1,0,none⟩ (.slice A1 (dg 18446744073709551616 (2^k*x)).length c1))):=⟨_,_,_,rfl,G.2.1,G.1,G.2.2⟩;clear G ae h1 h2 Q;obtain⟨L,hL⟩:∃L,(dg 18446744073709551616 (2^k*x)).length=L:=⟨_,rfl⟩;rw [hL] at HG⊢;clear hL;go_wp2;refine bodyPost_ret (v:=.tuple #[.agg #[.slice A1 L c1],.bool true]) (by simp [results,results135,go_sem,au]) rfl ?_;exact HG.o
theorem Xl (w:World):zp w 0 none 0 0:=⟨zE.none_,qX _,za⟩
theorem XF (x k:Nat)(A:zf)(n c:Nat)(w:World)(hA:zp w x A n c)(hn:n<=549755813888)(hk:bitLen x<=k):
  Calls prog 138 #[.agg #[.slice A n c],.int .i64 k] w (yq w 0):=by
 have HC:=zn w (λw' hb=>bN x A n c w' (hA.below hb) za);obtain⟨z,hz⟩:∃z,bitLen x=z:=⟨_,rfl⟩;rw [hz] at HC hk;have hd:decide ((z:Int)<=(k:Int))=true:=by simpa using hk
 clear hz hA;go_enter func138,ntmps138;go_wp2_with fail;generalize hW:(w.alloc (.cells #[.slice A n c] 56)).alloc (.cells #[.slice none 0 0] 56)=W0;obtain⟨b1,b2,b4,b5⟩:=yb w 56 56 #[.slice A n c] #[.slice none 0 0];rw [hW] at b1 b2 b4 b5;clear hW b2;refine(HC.o _ b1).mono ?_;rintro e w1 ⟨rfl,hb⟩;have hB:=ze b1 hb;have hk:=zj hb b4;have a:w1.cell? ⟨w.heap.size+1,0,none⟩=some (.slice none 0 0):=hk.cell 0;have hf1:=hk.frozen 0;have HG:zg (yq w 0 (.returned (.agg #[.slice none 0 0])) (w1.setCell ⟨w.heap.size+1,0,none⟩ (.slice none 0 0))):=⟨_,_,_,rfl,Xl _,zH _ (by show _<=w.heap.size+1;omega) hB,uk.none_ _⟩;clear hB hk hb b1 b4;go_wp2;refine bodyPost_ret (v:=.agg #[.slice none 0 0]) (by simp [results,results138,go_sem,a]) rfl ?_;exact HG.o
theorem pe (x k:Nat)(A:zf)(n c:Nat)(w:World)(hA:zp w x A n c)(hn:n<=549755813888)(hk:k<bitLen x):
  Calls prog 138 #[.agg #[.slice A n c],.int .i64 k] w (yq w (x / 2^k)):=by
 obtain⟨i0,ad,am,an,ao⟩:=info_parts rN;have B:=hA.len;have aa:bitLen x<=64*n:=kT _ _ (by
  have h:=yx (b:=18446744073709551616) zh x;rw [B,show(18446744073709551616:Nat)=2^64 from rfl,<-YG] at h;exact h)
 have HC:=(λw' (hb:Below w.heap.size w w')=>bN x A n c w' (hA.below hb) za);have HA:=zn w (λw' hb=>hA.below hb);obtain⟨q,hq⟩:∃q,k / 64=q:=⟨_,rfl⟩;obtain⟨r,hr⟩:∃r,k%64=r:=⟨_,rfl⟩;have P:r<64:=za;have hqn:q<n:=za;obtain⟨z,hz⟩:∃z,bitLen x=z:=⟨_,rfl⟩;rw [hz] at HC hk aa;have HC:=zd HC;have hd:decide ((z:Int)<=(k:Int))=false:=by simp;omega
 have hzk:z<=35184372088832:=za;have W:∀i,wd (x / 2^k) i=wd x (q+i) / 2^r+2^(64 - r)*(wd x (q+i+1)%2^r):=λi=>by rw [sU,hq,hr]
 have HW:=zd W;obtain⟨N,hN⟩:∃N,n - q=N:=⟨_,rfl⟩;have E:0<N/\N<=n:=za;obtain⟨E,hNn⟩:=E;have V:(n:Int) - (q:Int)=(N:Int):=za;have X:IntKind.i64.wrap (N:Int)=(N:Int):=QD _ za;obtain⟨Z,hZ⟩:∃Z,madeCells (Value.cells (.int .u64 0)) (N*i0.size)=Z:=⟨_,rfl⟩;have HZ:zg (Z.size=N):=by show _=_;rw [<-hZ,size_madeCells,an,xO]
 have ah:∀W:World,(Instr.makeSlice 54 (.int .i64 (N:Int)) (.int .i64 (N:Int))).run prog W=.ok (.slice (some ⟨W.heap.size,0,none⟩) N N) (W.alloc (.cells Z 141)):=λW=>by
  rw [<-hZ];exact uv _ _ i0 _ underlying54 ad am _ _ N N (qX _) (by rw [ao];omega) za W
 have HL:zg ((dg 18446744073709551616 (x / 2^k)).length<=N):=by
  refine pR zh _ _ ?_;have h:=yx (b:=18446744073709551616) zh x;rw [B] at h;refine(QU (xZ k)).2 ?_;rw [<-qs k,hq,hr,<-qU,<-xU,show N+q=n from by omega];exact qJ h (Nat.le_mul_of_pos_right _ (xZ r))
 have hkd:decide ((k:Int)<0)=false:=zD;have K:(k:Int) / 64=(q:Int):=za;have M:(k:Int)%64=(r:Int):=za;have ai:(k:Int).tdiv 64=(q:Int):=by rw [Int.tdiv_eq_ediv_of_nonneg za];exact K
 have aj:(k:Int).tmod 64=(r:Int):=by rw [yG za];exact M
 clear hZ hA B hN hq hr hz W;go_enter func138,ntmps138;go_wp2_with fail;generalize hW:(w.alloc (.cells #[.slice A n c] 56)).alloc (.cells #[.slice none 0 0] 56)=W0;obtain⟨b1,b2,b4,b5⟩:=yb w 56 56 #[.slice A n c] #[.slice none 0 0];rw [hW] at b1 b2 b4 b5;have g1:W0.cell? ⟨w.heap.size,0,none⟩=some (.slice A n c):=b2.cell 0;clear hW b2;refine(HC.o _ b1).mono ?_;rintro e w1 ⟨rfl,hb⟩;have hB:=ze b1 hb;have d:=zj hb b4;have g3:=zq hb g1;have ak:=hb.size;clear hb g1 b1 b4;go_wp2_with fail;refine(wN x _ _ _ _).mono ?_;rintro e w2 ⟨rfl,hb⟩;have hB:=ze hB hb;have d:=zj hb d;have g1:=zq hb g3;have al:=hb.size;have hgs:w.heap.size+2<=w2.heap.size:=za;clear hb g3 ak al b5;go_wp2_with fail;have F:=zi.new w2 141 Z;have hB:=ym (.cells Z 141) hB;have d:=d.alloc (.cells Z 141);have g1:=yo (.cells Z 141) g1;generalize w2.alloc (.cells Z 141)=W1 at*;generalize w2.heap.size=gs at*;clear ah V X K M ai aj
 rename_i hh1 _ _ hh2
 clear hh1
 go_loopg [8,29] (N + 1) (fun g _ ix wr => ∃ (i : Nat) (cs : Array Value),i ≤ N ∧ N < g + i ∧ ix = .int .i64 i ∧ cs.size = N ∧ cs.toList.take i = zw .u64 (wE (x / 2 ^ k) i) ∧ zi wr gs 141 cs ∧
   Below w.heap.size w wr/\wr.cell? ⟨w.heap.size,0,none⟩=some (.slice A n c)/\zi wr (w.heap.size+1) 56 #[.slice none 0 0])
 case atStart=>exact⟨0,Z,za,za,rfl,HZ.o,rfl,F,hB,g1,d⟩
 case round=>
  clear hB g1 d F;obtain⟨i,cs,hi,hg,rfl,hsz,t,m,hB,g1,j⟩:=hrel;by_cases hlt:i<N
  ·have H:=xl x (q+i);have Y:=xl x (q+i+1);have WX:=(λw' (h:Below w.heap.size w w')=>oH x A n c (q+i) w' (HA.o w' h));have WY:=(λw' (h:Below w.heap.size w w')=>oH x A n c (q+i+1) w' (HA.o w' h));rw [Int.natCast_add] at WX;rw [show((q+i+1:Nat):Int)=(q:Int)+(i:Int)+1 from by omega] at WY;have y:=zd (HW.o i);obtain⟨a,ha⟩:∃a,wd x (q+i)=a:=⟨_,rfl⟩;obtain⟨b,hb⟩:∃a,wd x (q+i+1)=a:=⟨_,rfl⟩;rw [ha] at WX H y;rw [hb] at WY Y y;have R:=zd WX;have S:=zd WY;have C:=zd hsz;have Q:=zd t;obtain⟨u,hu⟩:∃u,cs[i]?=some u:=⟨cs[i]' za,QX za⟩;have HU:=zd hu;clear WX WY ha hb t hu hsz;have i1:(0:Int)<=(i:Int):=za;have i2:(i:Int)<(N:Int):=za;obtain⟨j1,j2,j3⟩:IntKind.i64.wrap ((q:Int)+(i:Int))=(q:Int)+(i:Int)/\IntKind.i64.wrap ((q:Int)+(i:Int)+1)=(q:Int)+(i:Int)+1/\IntKind.i64.wrap (64 - (r:Int))=64 - (r:Int):=⟨QD _ za,QD _ za,QD _ za⟩;go_wp2_with fail;have I:=hB.drew;have J:=j.drew;have ab:=m.drew
   go_region_held3 (fun w' => Below w.heap.size w w' ∧ w'.cell? ⟨w.heap.size,0,none⟩ = some (.slice A n c) ∧ zi w' (w.heap.size + 1) 56 #[.slice none 0 0])
    (first|(exact⟨I,g1,J⟩)|(go_split_ands;(repeat' apply And.intro);all_goals (first|exact zo|exact ze zo hb|exact zq hb zo|exact zj hb zo|exact zH _ (by simp;omega) zo|exact zS _ (by simp;omega) zo|exact zi.far zo (by simp;omega) _)))
    (first
      |(go_at_call 118;with_reducible refine(R.o _ (by first|exact zo|exact yC zo)).mono ?_;rintro e w' ⟨rfl,hb⟩;have d:zi w' gs 141 cs:=zj hb zo;have q1:=(d.cell i).trans HU.o;have q2:=d.frozen i)
      |(go_at_call 118;with_reducible refine(S.o _ (by first|exact zo|exact yC zo)).mono ?_;rintro e w' ⟨rfl,hb⟩;have d:zi w' gs 141 cs:=zj hb zo;have q1:=(d.cell i).trans HU.o;have q2:=d.frozen i))
   rename_i hH
   obtain⟨U,g3,af⟩:=hH;have ag:=d.set_ i (.int .u64 (bits .or .u64 ((a:Int) / 2^r) (IntKind.u64.wrap ((b:Int)*2^(64 - r)))));have HV:zg ((cs.setIfInBounds i (.int .u64 (bits .or .u64 ((a:Int) / 2^r) (IntKind.u64.wrap ((b:Int)*2^(64 - r)))))).toList.take (i+1)=zw .u64 (wE (x / 2^k) (i+1))):=by
    show _=_;rw [iR _ _ _ (by have:=C.o;omega),Q.o,ip,lQ,y.o,bW H P]
   clear hb d q1 q2 I J ab hB g1 j m j1 j2 j3;go_wp2;go_roundg (N - i)
   case measure=>omega
   case rel=>exact⟨i+1,_,za,za,by go_num,by simpa using C.o,HV.o,ag,U,g3,af⟩
  ·have ae:i=N:=za;subst ae;have e:=ew HL.o;have T:=lW (some ⟨gs,0,none⟩) i i wr.heap.size (wE (x / 2^k) i) wr (my m hsz t (oC _ _)) (ez _ _) (qX _) za za;rw [e] at T;have HT:=zd T;have ac:wr.cell? ⟨w.heap.size+1,0,none⟩=some (.slice none 0 0):=j.cell 0;have hf1:=j.frozen 0;clear T m hsz t e j g1;go_wp2_with fail;refine HT.o.mono ?_;rintro e w2 ⟨A1,c1,rfl,O,h1,h2,D,rfl⟩;have G:=jb hB (p:=w.heap.size+1) (gs:=gs) za za O h1 h2 D za (.slice A1 (dg 18446744073709551616 (x / 2^k)).length c1);have HG:zg (yq w (x / 2^k) (.returned (.agg #[.slice A1 (dg 18446744073709551616 (x / 2^k)).length c1])) (wr.setCell ⟨w.heap.size+1,0,none⟩ (.slice A1 (dg 18446744073709551616 (x / 2^k)).length c1))):=⟨_,_,_,rfl,G.2.1,G.1,G.2.2⟩;clear G O h1 h2 D;obtain⟨L,hL⟩:∃L,(dg 18446744073709551616 (x / 2^k)).length=L:=⟨_,rfl⟩;rw [hL] at HG⊢;clear hL;go_wp2;refine bodyPost_ret (v:=.agg #[.slice A1 L c1]) (by simp [results,results138,go_sem,ac]) rfl ?_;exact HG.o
theorem Vm (x:Nat):x<2^bitLen x:=by
 unfold bitLen
 split
 ·rename_i h;subst h;decide
 ·exact Nat.lt_log2_self
theorem fV (x k:Nat)(A:zf)(n c:Nat)(w:World)(hA:zp w x A n c)(hn:n<=549755813888):
  Calls prog 138 #[.agg #[.slice A n c],.int .i64 k] w (yq w (x / 2^k)):=by
 by_cases h:bitLen x<=k
 ·rw [xJ (qJ (Vm x) (qL zh h))];exact XF x k A n c w hA hn h
 ·exact pe x k A n c w hA hn za
theorem Sz.shl' {K x k M:Nat}(h:Sz K x)(hk:k<=64*M):Sz (K+M) (2^k*x):=by
 unfold Sz at*;have h1:2^k<=18446744073709551616^M:=by
  rw [show(18446744073709551616:Nat)=2^64 from rfl,<-YG];exact qL zh hk
 rw [xU,qE (18446744073709551616^K)];exact QA (QK x h1) (Nat.mul_lt_mul_of_pos_left h (XM zh))
