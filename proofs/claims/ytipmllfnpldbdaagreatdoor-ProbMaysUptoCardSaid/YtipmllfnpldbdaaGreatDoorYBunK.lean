/- What this claim leans on. -/
import Derived.Test.YtipmllfnpldbdaaGreatDoorYBunN
set_option linter.unusedVariables false
set_option linter.unusedSimpArgs false
namespace Go.Proofs.YtipmllfnpldbdaaGreatDoor
open Go Go.RowKit Go.Proofs.Tryz
set_option maxHeartbeats 16000000
set_option maxRecDepth 100000
theorem pc (x y:Nat)(A D:zf)(n m c d:Nat)(w:World)(hA:zp w x A n c)(hD:zp w y D m d)(hn:n<=549755813888)(hm:m<=549755813888):
  Calls prog 120 #[.agg #[.slice A n c],.agg #[.slice D m d]] w (yq w (x+y)):=by
 obtain⟨i0,af,an,ao,ap⟩:=info_parts rN;have ak:=zd hA.len;have aj:=zd hD.len;have HA:=zn w (λw' hb=>hA.below hb);have HD:=zn w (λw' hb=>hD.below hb);obtain⟨N,hN⟩:∃N,max n m=N:=⟨_,rfl⟩;have hN1:n<=N:=za;have hN2:m<=N:=za;have hN3:N<=549755813888:=za;obtain⟨Z,hZ⟩:∃Z,madeCells (Value.cells (.int .u64 0)) ((N+1)*i0.size)=Z:=⟨_,rfl⟩;have HZ:zg (Z.size=N+1):=by show _=_;rw [<-hZ,size_madeCells,ao,xO]
 have al:∀W:World,(Instr.makeSlice 54 (.int .i64 ((N:Int)+1)) (.int .i64 ((N:Int)+1))).run prog W=.ok (.slice (some ⟨W.heap.size,0,none⟩) (N+1) (N+1)) (W.alloc (.cells Z 141)):=λW=>by
  rw [<-hZ];exact uv _ _ i0 _ underlying54 af an _ _ (N+1) (N+1) (qX _) (by rw [ap];omega) za W
 have am:IntKind.i64.wrap ((N:Int)+1)=(N:Int)+1:=QD _ za;have P:(if (n:Int)<(m:Int) then(m:Int) else(n:Int))=(N:Int):=by split<;>omega
 have Q:(if n<m then(m:Int) else(n:Int))=(N:Int):=by split<;>omega
 have R:(if (m:Int)>(n:Int) then(m:Int) else(n:Int))=(N:Int):=by split<;>omega
 clear hZ hA hD hN;go_enter func120,ntmps120;go_wp2_with fail;generalize hW:((w.alloc (.cells #[.slice A n c] 56)).alloc (.cells #[.slice D m d] 56)).alloc (.cells #[.slice none 0 0] 56)=W0;obtain⟨b1,b2,b3,b4,b5⟩:=yc w 56 56 56 #[.slice A n c] #[.slice D m d] #[.slice none 0 0];rw [hW] at b1 b2 b3 b4 b5;have g1:W0.cell? ⟨w.heap.size,0,none⟩=some (.slice A n c):=b2.cell 0;have g2:W0.cell? ⟨w.heap.size+1,0,none⟩=some (.slice D m d):=b3.cell 0;clear hW b2 b3;have z:=b1.drew;have B:=b4.drew
 go_region_held3 (fun w' => Below w.heap.size w w' ∧ w'.cell? ⟨w.heap.size,0,none⟩ = some (.slice A n c) ∧ w'.cell? ⟨w.heap.size + 1,0,none⟩ = some (.slice D m d) ∧ zi w' (w.heap.size + 1 + 1) 56 #[.slice none 0 0])
  (first|(exact⟨z,g1,g2,B⟩)|(go_split_ands;(repeat' apply And.intro);all_goals (first|exact zo|exact ze zo hb|exact zq hb zo|exact zj hb zo|exact ym _ zo|exact yo _ zo|exact zi.alloc zo _|exact zH _ (by simp;omega) zo|exact zS _ (by simp;omega) zo|exact zi.far zo (by simp;omega) _)))
  (first
    |(go_at_call 86;refine(wN x _ _ _ _).mono ?_;rintro e w' ⟨rfl,hb⟩))
 rename_i w1 hb1 hH
 obtain⟨hB,g1,g2,hk⟩:=hH;have hgs:w.heap.size+3<=w'.heap.size:=by
  have h1:=hb1.size;have h2:=hb.size;have h3:W0.drew.heap.size=W0.heap.size:=rfl;omega
 have M:=zi.new w' 141 Z;generalize w'.alloc (.cells Z 141)=W1 at*;generalize w'.heap.size=gs at*;clear al P Q R hb hb1 z B b1 b4 b5 am;go_wp2_with fail
 go_loopg [6,7,17] (N + 2) (fun g v _ i wr => ∃ (k cc : Nat) (cs : Array Value) (out : List Nat),k ≤ N + 1 ∧ N + 1 < g + k ∧ i = .int .i64 k ∧ v = .int .u64 cc ∧ wm x y k out cc ∧ cs.size = N + 1 ∧ cs.toList.take k = zw .u64 out ∧ zi wr gs 141 cs ∧
   Below w.heap.size w wr/\wr.cell? ⟨w.heap.size,0,none⟩=some (.slice A n c)/\wr.cell? ⟨w.heap.size+1,0,none⟩=some (.slice D m d)/\zi wr (w.heap.size+1+1) 56 #[.slice none 0 0])
 case atStart=>exact⟨0,0,Z,[],za,za,rfl,rfl,wm.start x y,HZ.o,rfl,M,hB,g1,g2,hk⟩
 case round=>
  clear hB g1 g2 hk M;obtain⟨k,cc,cs,out,hk,hg,rfl,rfl,j,hsz,H,E,hB,g1,g2,C⟩:=hrel;have O:=j.carry;by_cases hlt:k<N+1
  ·have F:=j.step (s:=wd x k+wd y k+cc) rfl;have ab:=xl x k;have ac:=xl y k;have WX:=zn w (λw' h=>oH x A n c k w' (HA.o w' h));have WY:=zn w (λw' h=>oH y D m d k w' (HD.o w' h));obtain⟨a,ha⟩:∃a,wd x k=a:=⟨_,rfl⟩;obtain⟨b,hb⟩:∃a,wd y k=a:=⟨_,rfl⟩;rw [ha] at WX ab F;rw [hb] at WY ac F;have WA:∀w',Calls prog 133 #[.int .u64 a,.int .u64 b,.int .u64 cc] w' λe V=>e=.returned (.tuple #[.int .u64 (((a+b+cc)%18446744073709551616:Nat):Int),.int .u64 (((a+b+cc) / 18446744073709551616:Nat):Int)])/\w'=V:=λw'=>by
    rw [<-dC O,<-dB O];exact bK a b cc ⟨za,za⟩ ⟨za,za⟩ ⟨za,za⟩ w'
   have I:=zd F;have J:=zd hsz;have X:=zd H;obtain⟨s1,e1⟩:∃s1,(a+b+cc)%18446744073709551616=s1:=⟨_,rfl⟩;obtain⟨s2,e2⟩:∃s2,(a+b+cc) / 18446744073709551616=s2:=⟨_,rfl⟩;rw [e1,e2] at WA I;have Y:=zd WA;obtain⟨u,hu⟩:∃u,cs[k]?=some u:=⟨cs[k]' za,QX za⟩;have HU:=zd hu;clear WA F ha hb e1 e2 j H hu hsz;have i1:(0:Int)<=(k:Int):=za;have i2:(k:Int)<(N:Int)+1:=za;go_wp2_with fail;have z:=hB.drew;have B:=C.drew;have ad:=E.drew
   go_region_held3 (λw'=>Below w.heap.size w w'/\w'.cell? ⟨w.heap.size,0,none⟩=some (.slice A n c)/\w'.cell? ⟨w.heap.size+1,0,none⟩=some (.slice D m d)/\zi w' (w.heap.size+1+1) 56 #[.slice none 0 0])
   (first | (exact ⟨z,g1,g2,B⟩) | (go_split_ands; (repeat' apply And.intro); all_goals (first | exact zo | exact ze zo hb | exact zq hb zo | exact zj hb zo | exact ym _ zo | exact yo _ zo | exact zi.alloc zo _ | exact zH _ (by simp; omega) zo | exact zS _ (by simp; omega) zo | exact zi.far zo (by simp; omega) _)))
     (first
       |(go_at_call 118;with_reducible refine(WX.o _ (by first|exact zo|exact yC zo)).mono ?_;rintro e w' ⟨rfl,hb⟩;have t:zi w' gs 141 cs:=zj hb zo;have q1:=(t.cell k).trans HU.o;have q2:=t.frozen k)
       |(go_at_call 118;with_reducible refine(WY.o _ (by first|exact zo|exact yC zo)).mono ?_;rintro e w' ⟨rfl,hb⟩;have t:zi w' gs 141 cs:=zj hb zo;have q1:=(t.cell k).trans HU.o;have q2:=t.frozen k)
       |(go_at_call 133;with_reducible refine(Y.o _).mono ?_;rintro e V ⟨rfl,rfl⟩))
   rename_i hH
   obtain⟨aa,g3,g4,ag⟩:=hH;have ah:=t.set_ k (.int .u64 s1);clear hb t q1 q2 z B ad hB g1 g2 C E;go_wp2;go_roundg (N+1 - k)
   case measure=>omega
   case rel=>exact⟨k+1,s2,_,_,za,za,by go_num,rfl,I.o,by simpa using J.o,by rw [iR _ _ _ (by have:=J.o;omega),X.o,lQ],ah,aa,g3,g4,ag⟩
  ·have ai:k=N+1:=za;subst ai;have e:=j.done (by have:=ak.o;omega) (by have:=aj.o;omega);have S:out.length=N+1:=j.len;have T:=lW (some ⟨gs,0,none⟩) (N+1) (N+1) wr.heap.size out wr (my E hsz H S) j.dgs (qX _) za za;rw [e] at T;have HT:=zd T;have ae:wr.cell? ⟨w.heap.size+1+1,0,none⟩=some (.slice none 0 0):=C.cell 0;have hf1:=C.frozen 0;clear T E hsz H j e S C g1 g2;go_wp2_with fail;refine HT.o.mono ?_;rintro e w2 ⟨A1,c1,rfl,U,h1,h2,K,rfl⟩;have G:=jb hB (p:=w.heap.size+1+1) (gs:=gs) za za U h1 h2 K za (.slice A1 (dg 18446744073709551616 (x+y)).length c1);have HG:zg (yq w (x+y) (.returned (.agg #[.slice A1 (dg 18446744073709551616 (x+y)).length c1])) (wr.setCell ⟨w.heap.size+1+1,0,none⟩ (.slice A1 (dg 18446744073709551616 (x+y)).length c1))):=⟨_,_,_,rfl,G.2.1,G.1,G.2.2⟩;clear G U h1 h2 K;obtain⟨L,hL⟩:∃L,(dg 18446744073709551616 (x+y)).length=L:=⟨_,rfl⟩;rw [hL] at HG⊢;clear hL;go_wp2;refine bodyPost_ret (v:=.agg #[.slice A1 L c1]) (by simp [results,results120,go_sem,ae]) rfl ?_;exact HG.o
theorem Vc (x y:Nat)(A D:zf)(n m c d:Nat)(w:World)(hA:zp w x A n c)(hD:zp w y D m d)(hn:n<=549755813888)(hm:m<=549755813888)(a:x<y):
  Calls prog 121 #[.agg #[.slice A n c],.agg #[.slice D m d]] w (mM w 0 false):=by
 have CC:=zn w (λw' hb=>nX x y A D n m c d w' (hA.below hb) (hD.below hb) za za);rw [oJ a] at CC;clear hA hD a;go_enter func121,ntmps121;go_wp2_with fail;generalize hW:((w.alloc (.cells #[.slice A n c] 56)).alloc (.cells #[.slice D m d] 56)).alloc (.cells #[.slice none 0 0] 56)=W0;obtain⟨b1,b2,b3,b4,b5⟩:=yc w 56 56 56 #[.slice A n c] #[.slice D m d] #[.slice none 0 0];rw [hW] at b1 b2 b3 b4 b5;clear hW b2 b3;refine(CC.o _ b1).mono ?_;rintro e w1 ⟨rfl,hb⟩;have hB:=ze b1 hb;have hk:=zj hb b4;have g:w1.cell? ⟨w.heap.size+1+1,0,none⟩=some (.slice none 0 0):=hk.cell 0;have hf1:=hk.frozen 0;have HG:zg (mM w 0 false (.returned (.tuple #[.agg #[.slice none 0 0],.bool false])) (w1.setCell ⟨w.heap.size+1+1,0,none⟩ (.slice none 0 0))):=⟨_,_,_,rfl,iy _,zH _ (by show _<=w.heap.size+1+1;omega) hB,uk.none_ _⟩;clear hB hk hb b1 b4;go_wp2;refine bodyPost_ret (v:=.tuple #[.agg #[.slice none 0 0],.bool false]) (by simp [results,results121,go_sem,g]) rfl ?_;exact HG.o
theorem Zk (x y:Nat)(A D:zf)(n m c d:Nat)(w:World)(hA:zp w x A n c)(hD:zp w y D m d)(hn:n<=549755813888)(hm:m<=549755813888)(I:y<=x):
  Calls prog 121 #[.agg #[.slice A n c],.agg #[.slice D m d]] w (mM w (x - y) true):=by
 obtain⟨i0,ak,au,av,aw⟩:=info_parts rN;have ao:=zd hA.len;have HA:=zn w (λw' hb=>hA.below hb);have HD:=zn w (λw' hb=>hD.below hb);have aa:=zd I;have H:=qe I;have CC:=(λw' (hb:Below w.heap.size w w')=>nX x y A D n m c d w' (hA.below hb) (hD.below hb) za za);obtain⟨z,hz⟩:∃z,yt x y=z:=⟨_,rfl⟩;rw [hz] at CC H;have HC:=zd CC;have hzl:¬ z<0:=za;have hzd:decide (z<0)=false:=by simpa using H
 obtain⟨Z,hZ⟩:∃Z,madeCells (Value.cells (.int .u64 0)) (n*i0.size)=Z:=⟨_,rfl⟩;have HZ:zg (Z.size=n):=by show _=_;rw [<-hZ,size_madeCells,av,xO]
 have ap:∀W:World,(Instr.makeSlice 54 (.int .i64 (n:Int)) (.int .i64 (n:Int))).run prog W=.ok (.slice (some ⟨W.heap.size,0,none⟩) n n) (W.alloc (.cells Z 141)):=λW=>by
  rw [<-hZ];exact uv _ _ i0 _ underlying54 ak au _ _ n n (qX _) (by rw [aw];omega) za W
 clear hZ hA hD I CC hz;go_enter func121,ntmps121;go_wp2_with fail;generalize hW:((w.alloc (.cells #[.slice A n c] 56)).alloc (.cells #[.slice D m d] 56)).alloc (.cells #[.slice none 0 0] 56)=W0;obtain⟨b1,b2,b3,b4,b5⟩:=yc w 56 56 56 #[.slice A n c] #[.slice D m d] #[.slice none 0 0];rw [hW] at b1 b2 b3 b4 b5;have g1:W0.cell? ⟨w.heap.size,0,none⟩=some (.slice A n c):=b2.cell 0;have g2:W0.cell? ⟨w.heap.size+1,0,none⟩=some (.slice D m d):=b3.cell 0;clear hW b2 b3;refine(HC.o _ b1).mono ?_;rintro e w1 ⟨rfl,hb⟩;have hB:=ze b1 hb;have hk:=zj hb b4;have g3:=zq hb g1;have g4:=zq hb g2;have aq:=hb.size;clear hb g1 g2 b1 b4;go_wp2_with fail;refine(wN x _ _ _ _).mono ?_;rintro e w2 ⟨rfl,hb⟩;have hB:=ze hB hb;have hk:=zj hb hk;have g1:=zq hb g3;have g2:=zq hb g4;have ar:=hb.size;have hgs:w.heap.size+3<=w2.heap.size:=za;clear hb g3 g4 aq ar b5;go_wp2_with fail;have N:=zi.new w2 141 Z;have hB:=ym (.cells Z 141) hB;have hk:=hk.alloc (.cells Z 141);have g1:=yo (.cells Z 141) g1;have g2:=yo (.cells Z 141) g2;generalize w2.alloc (.cells Z 141)=W1 at*;generalize w2.heap.size=gs at*;clear ap
 go_loopg [7,8,19] (n + 1) (fun g v _ i wr => ∃ (k cc : Nat) (cs : Array Value) (out : List Nat),k ≤ n ∧ n < g + k ∧ i = .int .i64 k ∧ v = .int .u64 cc ∧ wu x y k out cc ∧ cs.size = n ∧ cs.toList.take k = zw .u64 out ∧ zi wr gs 141 cs ∧
   Below w.heap.size w wr/\wr.cell? ⟨w.heap.size,0,none⟩=some (.slice A n c)/\wr.cell? ⟨w.heap.size+1,0,none⟩=some (.slice D m d)/\zi wr (w.heap.size+1+1) 56 #[.slice none 0 0])
 case atStart=>exact⟨0,0,Z,[],za,za,rfl,rfl,wu.start x y,HZ.o,rfl,N,hB,g1,g2,hk⟩
 case round=>
  clear hB g1 g2 hk N;obtain⟨k,cc,cs,out,hk,hg,rfl,rfl,j,hsz,F,B,hB,g1,g2,t⟩:=hrel;have aj:=j.lack;by_cases hlt:k<n
  ·have E:=λd c'=>j.step (d:=d) (c':=c');have O:=xl x k;have P:=xl y k;have M:=(HA.o wr hB).1;obtain⟨ad,rfl,Q,hx⟩:=ug M hlt;have hadw:ad.block<w.heap.size:=by
    obtain⟨ad',e,ag,_⟩:=(HA.o w (qY _ _)).1.2 za;cases e;exact ag
   rw [rM] at hx;have WY:=zn w (λw' h=>oH y D m d k w' (HD.o w' h));obtain⟨a,ha⟩:∃a,wd x k=a:=⟨_,rfl⟩;obtain⟨b,hb⟩:∃a,wd y k=a:=⟨_,rfl⟩;rw [ha] at hx O E;rw [hb] at WY P E;obtain⟨s1,s2,e1,e2,e3,e4,e5⟩:=gA O P aj;have WA:∀w',Calls prog 134 #[.int .u64 a,.int .u64 b,.int .u64 cc] w' λe Y=>e=.returned (.tuple #[.int .u64 (s1:Int),.int .u64 (s2:Int)])/\w'=Y:=λw'=>by
    rw [<-e1,<-e2];exact bL a b cc ⟨za,za⟩ ⟨za,za⟩ ⟨za,za⟩ w'
   have ab:=zd (E s1 s2 e3 e4 e5);have J:=zd hsz;have ac:=zd F;have ae:=zd WA;obtain⟨u,hu⟩:∃u,cs[k]?=some u:=⟨cs[k]' za,QX za⟩;have HU:=zd hu;clear WA E ha hb e1 e2 e3 e4 e5 j F hu hsz M Q;have i1:(0:Int)<=(k:Int):=za;have i2:(k:Int)<(n:Int):=za;go_wp2_with fail;have R:=hB.drew;have S:=t.drew;have ah:=B.drew;have X:wr.drew.cell? (ad.add k)=some (.int .u64 a):=hx
   go_region_held3 (fun w' => Below w.heap.size w w' ∧ w'.cell? ⟨w.heap.size,0,none⟩ = some (.slice (some ad) n c) ∧ w'.cell? ⟨w.heap.size + 1,0,none⟩ = some (.slice D m d) ∧ zi w' (w.heap.size + 1 + 1) 56 #[.slice none 0 0] ∧ w'.cell? (ad.add k) = some (.int .u64 a))
    (first|(exact⟨R,g1,g2,S,X⟩)|(go_split_ands;(repeat' apply And.intro);all_goals (first|exact zo|exact ze zo hb|exact zq hb zo|exact zj hb zo|exact ym _ zo|exact yo _ zo|exact zi.alloc zo _|exact zH _ (by simp;omega) zo|exact zS _ (by simp;omega) zo|exact zS _ (by rw [y9];simp;omega) zo|exact zi.far zo (by simp;omega) _)))
    (first
      |(go_at_call 118;with_reducible refine(WY.o _ (by first|exact zo|exact yC zo)).mono ?_;rintro e w' ⟨rfl,hb⟩;have C:zi w' gs 141 cs:=zj hb zo;have q1:=(C.cell k).trans HU.o;have q2:=C.frozen k)
      |(go_at_call 134;with_reducible refine(ae.o _).mono ?_;rintro e Y ⟨rfl,rfl⟩))
   rename_i hH
   obtain⟨af,g3,g4,al,_⟩:=hH;have am:=C.set_ k (.int .u64 s1);clear hb C q1 q2 R S ah hB g1 g2 t B hx X;go_wp2;go_roundg (n - k)
   case measure=>omega
   case rel=>exact⟨k+1,s2,_,_,za,za,by go_num,rfl,ab.o,by simpa using J.o,by rw [iR _ _ _ (by have:=J.o;omega),ac.o,lQ],am,af,g3,g4,al⟩
  ·have an:k=n:=za;subst an;have e:=j.done aa.o (by have:=ao.o;omega);have U:out.length=k:=j.len;have T:=lW (some ⟨gs,0,none⟩) k k wr.heap.size out wr (my B hsz F U) j.dgs (qX _) za za;rw [e] at T;have HT:=zd T;have ai:wr.cell? ⟨w.heap.size+1+1,0,none⟩=some (.slice none 0 0):=t.cell 0;have hf1:=t.frozen 0;clear T B hsz F j e U t g1 g2;go_wp2_with fail;refine HT.o.mono ?_;rintro e w2 ⟨A1,c1,rfl,V,h1,h2,K,rfl⟩;have G:=jb hB (p:=w.heap.size+1+1) (gs:=gs) za za V h1 h2 K za (.slice A1 (dg 18446744073709551616 (x - y)).length c1);have HG:zg (mM w (x - y) true (.returned (.tuple #[.agg #[.slice A1 (dg 18446744073709551616 (x - y)).length c1],.bool true])) (wr.setCell ⟨w.heap.size+1+1,0,none⟩ (.slice A1 (dg 18446744073709551616 (x - y)).length c1))):=⟨_,_,_,rfl,G.2.1,G.1,G.2.2⟩;clear G V h1 h2 K;obtain⟨L,hL⟩:∃L,(dg 18446744073709551616 (x - y)).length=L:=⟨_,rfl⟩;rw [hL] at HG⊢;clear hL;go_wp2;refine bodyPost_ret (v:=.tuple #[.agg #[.slice A1 L c1],.bool true]) (by simp [results,results121,go_sem,ai]) rfl ?_;exact HG.o
