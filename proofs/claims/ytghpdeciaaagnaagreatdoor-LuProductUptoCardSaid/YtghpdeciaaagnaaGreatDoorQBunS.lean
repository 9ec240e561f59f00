/- What this claim leans on. -/
import Derived.Test.YtghpdeciaaagnaaGreatDoorQBunN
import Derived.BigRegion
namespace Go.Proofs.YtghpdeciaaagnaaGreatDoor
open Go Go.RowKit Go.Proofs.Tryz
set_option maxHeartbeats 16000000
set_option maxRecDepth 100000
set_option linter.unusedVariables false
theorem zpF (x k:Nat)(A:oA9)(n c:Nat)(w:World)(hA:zad w x A n c)(hn:n<=549755813888)(hk:k<=65536):
  Calls prog 210 #[.agg #[.slice A n c],.int .i64 k] w (zgk w (2^k*x) true):=by
 obtain⟨i0,aq,a0,a1,a2⟩:=info_parts zgD;have V:=hA.len;have ah:=lh9 V;have HA:=up9 w (λw' hb=>hA.below hb);have HK:=kpow k;obtain⟨q,hq⟩:∃q,k / 64=q:=⟨_,rfl⟩;obtain⟨r,hr⟩:∃r,k%64=r:=⟨_,rfl⟩;rw [hq,hr] at HK;have ag:=lh9 HK;have F:r<64:=om9;have hq1:q<=1024:=om9;obtain⟨N,hN⟩:∃N,q+n+1=N:=⟨_,rfl⟩;have hN0:N<=549755814913:=om9;have am:(q:Int)+(n:Int)+1=(N:Int):=om9;have an:IntKind.i64.wrap (N:Int)=(N:Int):=IntWalk.i64_in _ om9;have I:=lh9 hN;obtain⟨Z,hZ⟩:∃Z,madeCells (Value.cells (.int .u64 0)) (N*i0.size)=Z:=⟨_,rfl⟩;have HZ:Hid (Z.toList=zaF .u64 (List.replicate N 0)):=by
  show _=_;rw [<-hZ,a1,Nat.mul_one];exact(toList_madeCells_one _ _).trans (by simp [zaF])
 have aw:∀W:World,(Instr.makeSlice 35 (.int .i64 (N:Int)) (.int .i64 (N:Int))).run prog W=.ok (.slice (some ⟨W.heap.size,0,none⟩) N N) (W.alloc (.cells Z 160)):=λW=>by
  rw [<-hZ];exact zbf _ _ i0 _ underlying35 aq a0 _ _ N N (Nat.le_refl _) (by rw [a2];omega) om9 W
 have hkd:decide ((k:Int)<0)=false:=si9;have hkd2:decide ((65536:Int)<(k:Int))=false:=by simp;omega
 have hkd3:decide ((k:Int)>65536)=false:=by simp;omega
 have X:(k:Int) / 64=(q:Int):=om9;have Y:(k:Int)%64=(r:Int):=om9;have ax:(k:Int).tdiv 64=(q:Int):=by rw [Int.tdiv_eq_ediv_of_nonneg om9];exact X
 have ay:(k:Int).tmod 64=(r:Int):=by rw [Int.tmod_eq_emod_of_nonneg om9];exact Y
 clear hZ hA V hN hq hr HK;go_enter func210,ntmps210;go_wp2_with fail;generalize hW:(w.alloc (.cells #[.slice A n c] 37)).alloc (.cells #[.slice none 0 0] 37)=W0;obtain⟨b1,b2,b4,b5⟩:=zbO w 37 37 #[.slice A n c] #[.slice none 0 0];rw [hW] at b1 b2 b4 b5;have g1:W0.cell? ⟨w.heap.size,0,none⟩=some (.slice A n c):=b2.cell 0;clear hW b2;refine(zbS x _ _ _ _).mono ?_;rintro e w2 ⟨rfl,hb⟩;have hB:=zaa b1 hb;have D:=zab hb b4;have g1:=zac hb g1;have az:=hb.size;have hgs:w.heap.size+2<=w2.heap.size:=om9;clear hb az b1 b4 b5;have ga:∀o,(w2.alloc o).cell? ⟨w.heap.size,0,none⟩=some (.slice A n c):=λo=>zam o g1;go_wp2_with fail;clear ga;have P:=Blk.new w2 160 Z;have hB:=zaj (.cells Z 160) hB;have D:=D.alloc (.cells Z 160);have g1:=zam (.cells Z 160) g1;generalize w2.alloc (.cells Z 160)=W1 at*;generalize w2.heap.size=gs at*;clear aw am an X Y ax ay;have aj:0<2^r:=Nat.two_pow_pos r
 go_loopg [9,10,31] (n + 1) (fun g _ _ ix wr => ∃ (i cc : Nat) (cs : Array Value) (out : List Nat),i ≤ n ∧ n < g + i ∧ ix = .int .i64 i ∧ Hid (zff x (2 ^ r) i out cc) ∧ Hid (cs.toList = zaF .u64 (List.replicate q 0 ++ out) ++ .int .u64 cc :: zaF .u64 (List.replicate (n - i) 0)) ∧ Blk wr gs 160 cs ∧
   Below w.heap.size w wr/\wr.cell? ⟨w.heap.size,0,none⟩=some (.slice A n c)/\Blk wr (w.heap.size+1) 37 #[.slice none 0 0])
 case atStart=>
  refine⟨0,0,Z,[],om9,om9,rfl,zff.start x _ aj,?_,P,hB,g1,D⟩;show Z.toList=zaF .u64 (List.replicate q 0++[])++Value.int .u64 0::zaF .u64 (List.replicate (n - 0) 0);rw [HZ.out,List.append_nil,Nat.sub_zero,<-znz,<-zeE,List.replicate_append_replicate,show q+(n+1)=N from by have:=I.out;omega]
 case round=>
  clear hB g1 D P;obtain⟨i,cc,cs,out,hi,hg,rfl,f,C,l,hB,g1,u⟩:=hrel;have E:=f.out.len;have j:(zaF .u64 (List.replicate q 0++out)).length=q+i:=by rw [zaL,List.length_append,List.length_replicate,E]
  by_cases hlt:i<n
  ·have O:=(HA.out wr hB).1;obtain⟨ad,rfl,Q,hx⟩:=zdy O hlt;rw [zeK] at hx;have ao:=zcs x i;have H:=lh9 (f.out.step (s:=wd x i*2^r+cc) rfl);have R:=f.out.carry;obtain⟨a,ha⟩:∃a,wd x i=a:=⟨_,rfl⟩;rw [ha] at hx ao H;have J:=lh9 (shl_cell (a:=a) F R);have K:=lh9 (zrj (a:=a) F R);obtain⟨m,hm⟩:∃m,n - i=m+1:=⟨n - i - 1,om9⟩;have b:=C.out;rw [hm,znz] at b;have ab:cs.size=q+i+(m+2):=by
    have h:=congrArg List.length b;rw [Array.length_toList] at h;rw [h,List.length_append,j,List.length_cons,List.length_cons,zaL,List.length_replicate]
   have ac:cs[q+i]?=some (.int .u64 cc):=by
    rw [<-Array.getElem?_toList,b,List.getElem?_append_right om9,j,Nat.sub_self];rfl
   have ae:cs[q+i+1]?=some (.int .u64 0):=by
    rw [<-Array.getElem?_toList,b,List.getElem?_append_right om9,j,show q+i+1 - (q+i)=1 from by omega];rfl
   have q1:wr.cell? ⟨gs,q+i,none⟩=some (.int .u64 cc):=(l.cell _).trans ac;have q2:=l.frozen (q+i);have af:=lh9 b;have ai:=lh9 j;have HM:=lh9 hm;have hNn:q+i+2<=N:=by have:=I.out;omega
   obtain⟨i1,i2,i3,i4,i5,i6,i7⟩:(0:Int)<=(i:Int)/\(i:Int)<(n:Int)/\(0:Int)<=(q:Int)+(i:Int)/\(q:Int)+(i:Int)<(N:Int)/\(0:Int)<=(q:Int)+(i:Int)+1/\(q:Int)+(i:Int)+1<(N:Int)/\q+i+1<N:=om9;obtain⟨j1,j2,j3,j4,j5⟩:IntKind.i64.wrap ((q:Int)+(i:Int))=(q:Int)+(i:Int)/\IntKind.i64.wrap ((q:Int)+(i:Int)+1)=(q:Int)+(i:Int)+1/\IntKind.i64.wrap (64 - (r:Int))=64 - (r:Int)/\((q:Int)+(i:Int)).toNat=q+i/\((q:Int)+(i:Int)+1).toNat=q+i+1:=⟨IntWalk.i64_in _ om9,IntWalk.i64_in _ om9,IntWalk.i64_in _ om9,om9,om9⟩;clear ha f C O b j hm ab ac Q E;go_wp2_with fail;go_region;rw [J.out];obtain⟨s1,e1⟩:∃s1,(a*2^r+cc)%18446744073709551616=s1:=⟨_,rfl⟩;obtain⟨s2,e2⟩:∃s2,(a*2^r+cc) / 18446744073709551616=s2:=⟨_,rfl⟩;rw [e1,e2] at H;rw [e2] at K;rw [e1];clear J e1 e2 q1 q2;have t:=(l.set_ (q+i) (.int .u64 (s1:Int))).drew;have au:=(u.far (p:=⟨gs,q+i,none⟩) (by show w.heap.size+1≠gs;omega) (.int .u64 (s1:Int))).drew;have ak:=(zae (p:=⟨gs,q+i,none⟩) (.int .u64 (s1:Int)) (by show w.heap.size<=gs;omega) hB).drew;have g2:((wr.setCell ⟨gs,q+i,none⟩ (.int .u64 (s1:Int))).drew).cell? ⟨w.heap.size,0,none⟩=some (.slice (some ad) n c):=zag _ (by show w.heap.size≠gs;omega) g1;generalize (wr.setCell ⟨gs,q+i,none⟩ (.int .u64 (s1:Int))).drew=w3 at*;have q1:w3.cell? ⟨gs,q+i+1,none⟩=some (.int .u64 0):=(t.cell _).trans (by rw [Array.getElem?_setIfInBounds_ne om9];exact ae);have q2:=t.frozen (q+i+1);have hv2:=K.out;clear ae l u hB g1 hx;go_wp2_with fail;have S:=t.set_ (q+i+1) (.int .u64 (s2:Int));have av:=au.far (p:=⟨gs,q+i+1,none⟩) (by show w.heap.size+1≠gs;omega) (.int .u64 (s2:Int));have al:=zae (p:=⟨gs,q+i+1,none⟩) (.int .u64 (s2:Int)) (by show w.heap.size<=gs;omega) ak;have g5:=zag (q:=⟨gs,q+i+1,none⟩) (.int .u64 (s2:Int)) (by show w.heap.size≠gs;omega) g2;go_roundg (n - i)
   case measure=>omega
   case rel=>
    refine⟨i+1,s2,_,_,om9,om9,by go_num,H.out,?_,S,al,g5,av⟩;show _=_;rw [Array.toList_setIfInBounds,Array.toList_setIfInBounds,af.out,set_two ai.out,<-List.append_assoc,zfa,show n - (i+1)=m from by have:=HM.out;omega,List.append_assoc];rfl
  ·have ar:i=n:=om9;subst ar;have b:=C.out;rw [Nat.sub_self] at b;have e:=f.out.done (q:=q) (by have:=ah.out;omega);rw [ag.out] at e;have z:cs.toList=zaF .u64 (List.replicate q 0++out++[cc]):=by rw [b,zfa];rfl
   have y:(List.replicate q 0++out++[cc]).length=N:=by
    have:=I.out;simp [E];omega
   have B:cs.size=N:=by
    have h:=congrArg List.length z;rw [Array.length_toList,zaL,y] at h;exact h
   have U:Dgs 18446744073709551616 (List.replicate q 0++out++[cc]):=by
    have h:=f.out.carry;have h2:2^r<=2^63:=Nat.pow_le_pow_right de9 om9;exact((Dgs.zeros de9 q).append f.out.dgs).append (by intro d hd;simp at hd;subst hd;omega)
   have T:=zfT (some ⟨gs,0,none⟩) N N wr.heap.size _ wr (zea l B (by rw [<-B,<-Array.length_toList,List.take_length];exact z) y) U (Nat.le_refl _) om9 om9;rw [e] at T;have HT:=lh9 T;have ap:wr.cell? ⟨w.heap.size+1,0,none⟩=some (.slice none 0 0):=u.cell 0;have hf1:=u.frozen 0;clear T l b z y B U f C e u g1 E j;go_wp2_with fail;refine HT.out.mono ?_;rintro e w2 ⟨A1,c1,rfl,aa,h1,h2,M,rfl⟩;have G:=zgy hB (p:=w.heap.size+1) (gs:=gs) om9 om9 aa h1 h2 M om9 (.slice A1 (dg 18446744073709551616 (2^k*x)).length c1);have HG:Hid (zgk w (2^k*x) true (.returned (.tuple #[.agg #[.slice A1 (dg 18446744073709551616 (2^k*x)).length c1],.bool true])) (wr.setCell ⟨w.heap.size+1,0,none⟩ (.slice A1 (dg 18446744073709551616 (2^k*x)).length c1))):=⟨_,_,_,rfl,G.2.1,G.1,G.2.2⟩;clear G aa h1 h2 M;obtain⟨L,hL⟩:∃L,(dg 18446744073709551616 (2^k*x)).length=L:=⟨_,rfl⟩;rw [hL] at HG⊢;clear hL;go_wp2;refine bodyPost_ret (v:=.tuple #[.agg #[.slice A1 L c1],.bool true]) (by simp [results,results210,go_sem,ap]) rfl ?_;exact HG.out
theorem znK (w:World):zad w 0 none 0 0:=⟨zaw.none_,Nat.le_refl _,om9⟩
theorem zne (x k:Nat)(A:oA9)(n c:Nat)(w:World)(hA:zad w x A n c)(hn:n<=549755813888)(hk:bitLen x<=k):
  Calls prog 213 #[.agg #[.slice A n c],.int .i64 k] w (zaS w 0):=by
 have HC:=up9 w (λw' hb=>zjA x A n c w' (hA.below hb) om9);obtain⟨z,hz⟩:∃z,bitLen x=z:=⟨_,rfl⟩;rw [hz] at HC hk;have hd:decide ((z:Int)<=(k:Int))=true:=by simpa using hk
 clear hz hA;go_enter func213,ntmps213;go_wp2_with fail;generalize hW:(w.alloc (.cells #[.slice A n c] 37)).alloc (.cells #[.slice none 0 0] 37)=W0;obtain⟨b1,b2,b4,b5⟩:=zbO w 37 37 #[.slice A n c] #[.slice none 0 0];rw [hW] at b1 b2 b4 b5;clear hW b2;refine(HC.out _ b1).mono ?_;rintro e w1 ⟨rfl,hb⟩;have hB:=zaa b1 hb;have hk:=zab hb b4;have a:w1.cell? ⟨w.heap.size+1,0,none⟩=some (.slice none 0 0):=hk.cell 0;have hf1:=hk.frozen 0;have HG:Hid (zaS w 0 (.returned (.agg #[.slice none 0 0])) (w1.setCell ⟨w.heap.size+1,0,none⟩ (.slice none 0 0))):=⟨_,_,_,rfl,znK _,zae _ (by show _<=w.heap.size+1;omega) hB,zeM.none_ _⟩;clear hB hk hb b1 b4;go_wp2;refine bodyPost_ret (v:=.agg #[.slice none 0 0]) (by simp [results,results213,go_sem,a]) rfl ?_;exact HG.out
theorem nat_shr (x k:Nat)(A:oA9)(n c:Nat)(w:World)(hA:zad w x A n c)(hn:n<=549755813888)(hk:k<bitLen x):
  Calls prog 213 #[.agg #[.slice A n c],.int .i64 k] w (zaS w (x / 2^k)):=by
 obtain⟨i0,Y,ai,aj,ak⟩:=info_parts zgD;have o:=hA.len;have U:bitLen x<=64*n:=zeO _ _ (by
  have h:=zbP (b:=18446744073709551616) de9 x;rw [o,show(18446744073709551616:Nat)=2^64 from rfl,<-Nat.pow_mul] at h;exact h)
 have HC:=(λw' (hb:Below w.heap.size w w')=>zjA x A n c w' (hA.below hb) om9);have HA:=up9 w (λw' hb=>hA.below hb);obtain⟨q,hq⟩:∃q,k / 64=q:=⟨_,rfl⟩;obtain⟨r,hr⟩:∃r,k%64=r:=⟨_,rfl⟩;have J:r<64:=om9;have hqn:q<n:=om9;obtain⟨z,hz⟩:∃z,bitLen x=z:=⟨_,rfl⟩;rw [hz] at HC hk U;have HC:=lh9 HC;have hd:decide ((z:Int)<=(k:Int))=false:=by simp;omega
 have hzk:z<=35184372088832:=om9;have W:∀i,wd (x / 2^k) i=wd x (q+i) / 2^r+2^(64 - r)*(wd x (q+i+1)%2^r):=λi=>by rw [wd_shr,hq,hr]
 have HW:=lh9 W;obtain⟨N,hN⟩:∃N,n - q=N:=⟨_,rfl⟩;have y:0<N/\N<=n:=om9;obtain⟨y,hNn⟩:=y;have Q:(n:Int) - (q:Int)=(N:Int):=om9;have R:IntKind.i64.wrap (N:Int)=(N:Int):=IntWalk.i64_in _ om9;obtain⟨Z,hZ⟩:∃Z,madeCells (Value.cells (.int .u64 0)) (N*i0.size)=Z:=⟨_,rfl⟩;have HZ:Hid (Z.size=N):=by show _=_;rw [<-hZ,size_madeCells,aj,Nat.mul_one]
 have ad:∀W:World,(Instr.makeSlice 35 (.int .i64 (N:Int)) (.int .i64 (N:Int))).run prog W=.ok (.slice (some ⟨W.heap.size,0,none⟩) N N) (W.alloc (.cells Z 160)):=λW=>by
  rw [<-hZ];exact zbf _ _ i0 _ underlying35 Y ai _ _ N N (Nat.le_refl _) (by rw [ak];omega) om9 W
 have HL:Hid ((dg 18446744073709551616 (x / 2^k)).length<=N):=by
  refine zcH de9 _ _ ?_;have h:=zbP (b:=18446744073709551616) de9 x;rw [o] at h;refine(Nat.div_lt_iff_lt_mul (Nat.two_pow_pos k)).2 ?_;rw [<-kpow k,hq,hr,<-Nat.mul_assoc,<-Nat.pow_add,show N+q=n from by omega];exact Nat.lt_of_lt_of_le h (Nat.le_mul_of_pos_right _ (Nat.two_pow_pos r))
 have hkd:decide ((k:Int)<0)=false:=si9;have F:(k:Int) / 64=(q:Int):=om9;have H:(k:Int)%64=(r:Int):=om9;have ae:(k:Int).tdiv 64=(q:Int):=by rw [Int.tdiv_eq_ediv_of_nonneg om9];exact F
 have af:(k:Int).tmod 64=(r:Int):=by rw [Int.tmod_eq_emod_of_nonneg om9];exact H
 clear hZ hA o hN hq hr hz W;go_enter func213,ntmps213;go_wp2_with fail;generalize hW:(w.alloc (.cells #[.slice A n c] 37)).alloc (.cells #[.slice none 0 0] 37)=W0;obtain⟨b1,b2,b4,b5⟩:=zbO w 37 37 #[.slice A n c] #[.slice none 0 0];rw [hW] at b1 b2 b4 b5;have g1:W0.cell? ⟨w.heap.size,0,none⟩=some (.slice A n c):=b2.cell 0;clear hW b2;refine(HC.out _ b1).mono ?_;rintro e w1 ⟨rfl,hb⟩;have hB:=zaa b1 hb;have d:=zab hb b4;have g3:=zac hb g1;have ag:=hb.size;clear hb g1 b1 b4;go_wp2_with fail;refine(zbS x _ _ _ _).mono ?_;rintro e w2 ⟨rfl,hb⟩;have hB:=zaa hB hb;have d:=zab hb d;have g1:=zac hb g3;have ah:=hb.size;have hgs:w.heap.size+2<=w2.heap.size:=om9;clear hb g3 ag ah b5;go_wp2_with fail;have B:=Blk.new w2 160 Z;have hB:=zaj (.cells Z 160) hB;have d:=d.alloc (.cells Z 160);have g1:=zam (.cells Z 160) g1;generalize w2.alloc (.cells Z 160)=W1 at*;generalize w2.heap.size=gs at*;clear ad Q R F H ae af
 rename_i hh1 _ _ hh2
 clear hh1
 go_loopg [8,29] (N + 1) (fun g _ ix wr => ∃ (i : Nat) (cs : Array Value),i ≤ N ∧ N < g + i ∧ ix = .int .i64 i ∧ cs.size = N ∧ cs.toList.take i = zaF .u64 (zcp (x / 2 ^ k) i) ∧ Blk wr gs 160 cs ∧
   Below w.heap.size w wr/\wr.cell? ⟨w.heap.size,0,none⟩=some (.slice A n c)/\Blk wr (w.heap.size+1) 37 #[.slice none 0 0])
 case atStart=>exact⟨0,Z,om9,om9,rfl,HZ.out,rfl,B,hB,g1,d⟩
 case round=>
  clear hB g1 d B;obtain⟨i,cs,hi,hg,rfl,hsz,l,j,hB,g1,f⟩:=hrel;by_cases hlt:i<N
  ·have C:=zcs x (q+i);have S:=zcs x (q+i+1);have WX:=(λw' (h:Below w.heap.size w w')=>zdL x A n c (q+i) w' (HA.out w' h));have WY:=(λw' (h:Below w.heap.size w w')=>zdL x A n c (q+i+1) w' (HA.out w' h));rw [Int.natCast_add] at WX;rw [show((q+i+1:Nat):Int)=(q:Int)+(i:Int)+1 from by omega] at WY;have m:=lh9 (HW.out i);obtain⟨a,ha⟩:∃a,wd x (q+i)=a:=⟨_,rfl⟩;obtain⟨b,hb⟩:∃a,wd x (q+i+1)=a:=⟨_,rfl⟩;rw [ha] at WX C m;rw [hb] at WY S m;have M:=lh9 WX;have O:=lh9 WY;have s:=lh9 hsz;have K:=lh9 l;obtain⟨u,hu⟩:∃u,cs[i]?=some u:=⟨cs[i]' om9,Array.getElem?_eq_getElem om9⟩;have HU:=lh9 hu;clear WX WY ha hb l hu hsz;have i1:(0:Int)<=(i:Int):=om9;have i2:(i:Int)<(N:Int):=om9;obtain⟨j1,j2,j3⟩:IntKind.i64.wrap ((q:Int)+(i:Int))=(q:Int)+(i:Int)/\IntKind.i64.wrap ((q:Int)+(i:Int)+1)=(q:Int)+(i:Int)+1/\IntKind.i64.wrap (64 - (r:Int))=64 - (r:Int):=⟨IntWalk.i64_in _ om9,IntWalk.i64_in _ om9,IntWalk.i64_in _ om9⟩;go_wp2_with fail;have D:=hB.drew;have E:=f.drew;have V:=j.drew
   go_region_held3 (fun w' => Below w.heap.size w w' ∧ w'.cell? ⟨w.heap.size,0,none⟩ = some (.slice A n c) ∧ Blk w' (w.heap.size + 1) 37 #[.slice none 0 0])
    (first|(exact⟨D,g1,E⟩)|(go_split_ands;(repeat' apply And.intro);all_goals (first|exact as9|exact zaa as9 hb|exact zac hb as9|exact zab hb as9|exact zae _ (by simp;omega) as9|exact zag _ (by simp;omega) as9|exact Blk.far as9 (by simp;omega) _)))
    (first
      |(go_at_call 164;with_reducible refine(M.out _ (by first|exact as9|exact And.left as9)).mono ?_;rintro e w' ⟨rfl,hb⟩;have d:Blk w' gs 160 cs:=zab hb as9;have q1:=(d.cell i).trans HU.out;have q2:=d.frozen i)
      |(go_at_call 164;with_reducible refine(O.out _ (by first|exact as9|exact And.left as9)).mono ?_;rintro e w' ⟨rfl,hb⟩;have d:Blk w' gs 160 cs:=zab hb as9;have q1:=(d.cell i).trans HU.out;have q2:=d.frozen i))
   rename_i hH
   obtain⟨P,g3,ab⟩:=hH;have ac:=d.set_ i (.int .u64 (bits .or .u64 ((a:Int) / 2^r) (IntKind.u64.wrap ((b:Int)*2^(64 - r)))));have HV:Hid ((cs.setIfInBounds i (.int .u64 (bits .or .u64 ((a:Int) / 2^r) (IntKind.u64.wrap ((b:Int)*2^(64 - r)))))).toList.take (i+1)=zaF .u64 (zcp (x / 2^k) (i+1))):=by
    show _=_;rw [zjT _ _ _ (by have:=s.out;omega),K.out,zfO,zfa,m.out,zns C J]
   clear hb d q1 q2 D E V hB g1 f j j1 j2 j3;go_wp2;go_roundg (N - i)
   case measure=>omega
   case rel=>exact⟨i+1,_,om9,om9,by go_num,by simpa using s.out,HV.out,ac,P,g3,ab⟩
  ·have aa:i=N:=om9;subst aa;have e:=zjj HL.out;have T:=zfT (some ⟨gs,0,none⟩) i i wr.heap.size (zcp (x / 2^k) i) wr (zea j hsz l (zcB _ _)) (zjk _ _) (Nat.le_refl _) om9 om9;rw [e] at T;have HT:=lh9 T;have X:wr.cell? ⟨w.heap.size+1,0,none⟩=some (.slice none 0 0):=f.cell 0;have hf1:=f.frozen 0;clear T j hsz l e f g1;go_wp2_with fail;refine HT.out.mono ?_;rintro e w2 ⟨A1,c1,rfl,I,h1,h2,t,rfl⟩;have G:=zgy hB (p:=w.heap.size+1) (gs:=gs) om9 om9 I h1 h2 t om9 (.slice A1 (dg 18446744073709551616 (x / 2^k)).length c1);have HG:Hid (zaS w (x / 2^k) (.returned (.agg #[.slice A1 (dg 18446744073709551616 (x / 2^k)).length c1])) (wr.setCell ⟨w.heap.size+1,0,none⟩ (.slice A1 (dg 18446744073709551616 (x / 2^k)).length c1))):=⟨_,_,_,rfl,G.2.1,G.1,G.2.2⟩;clear G I h1 h2 t;obtain⟨L,hL⟩:∃L,(dg 18446744073709551616 (x / 2^k)).length=L:=⟨_,rfl⟩;rw [hL] at HG⊢;clear hL;go_wp2;refine bodyPost_ret (v:=.agg #[.slice A1 L c1]) (by simp [results,results213,go_sem,X]) rfl ?_;exact HG.out
theorem zqd (x:Nat):x<2^bitLen x:=by
 unfold bitLen
 split
 ·rename_i h;subst h;decide
 ·exact Nat.lt_log2_self
theorem zio (x k:Nat)(A:oA9)(n c:Nat)(w:World)(hA:zad w x A n c)(hn:n<=549755813888):
  Calls prog 213 #[.agg #[.slice A n c],.int .i64 k] w (zaS w (x / 2^k)):=by
 by_cases h:bitLen x<=k
 ·rw [Nat.div_eq_of_lt (Nat.lt_of_lt_of_le (zqd x) (Nat.pow_le_pow_right de9 h))];exact zne x k A n c w hA hn h
 ·exact nat_shr x k A n c w hA hn om9
theorem Sz.shl' {K x k M:Nat}(h:Sz K x)(hk:k<=64*M):Sz (K+M) (2^k*x):=by
 unfold Sz at*;have h1:2^k<=18446744073709551616^M:=by
  rw [show(18446744073709551616:Nat)=2^64 from rfl,<-Nat.pow_mul];exact Nat.pow_le_pow_right de9 hk
 rw [Nat.pow_add,Nat.mul_comm (18446744073709551616^K)];exact Nat.lt_of_le_of_lt (Nat.mul_le_mul_right x h1) (Nat.mul_lt_mul_of_pos_left h (Nat.pow_pos de9))
