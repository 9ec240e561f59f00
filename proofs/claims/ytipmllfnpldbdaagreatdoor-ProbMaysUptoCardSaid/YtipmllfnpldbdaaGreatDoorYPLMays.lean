/- What this claim leans on. -/
import Derived.Test.YtipmllfnpldbdaaGreatDoorYPAwake
set_option linter.unusedVariables false
set_option linter.unusedSimpArgs false
namespace Go.Proofs.YtipmllfnpldbdaaGreatDoor
open Go Go.RowKit Go.Proofs.Tryz
set_option maxHeartbeats 16000000
set_option maxRecDepth 100000
theorem Yt {n:Nat}{ps:List PR}{i:Nat}(hi:i<ps.length):xh n (ps.drop i) i=if xi n (ps.getD i zN)=0 then xh n (ps.drop (i+1)) (i+1) else .spot (xi n (ps.getD i zN)) vQ i:=by
 rw [xS hi,xh,qQ,qZ hi];rfl
theorem Ym (n:Nat)(ps:List PR)(k:Nat):(xh n ps k).rowed:=by
 induction ps generalizing k with
 |nil=>trivial
 |cons p ps ih=>
   rw [xh]
   split
   ·exact ih _
   ·rfl
theorem Va (P:PB):(xu P).rowed:=by
 unfold xu
 split
 ·trivial
 ·split
  ·trivial
  ·exact Ym _ _ _
theorem nF (n:Nat){W:World}{x:vd}(h:jy W x):xi n (x6 x)=if x.n=n then(if x.k<1 then 160 else if 3<x.k then 160 else 0) else 2:=by
 have hl:(x6 x).co.length=x.n:=by show(xf x.L).length=_;rw [jm];exact h.co.len
 unfold xi;rw [hl];by_cases h1:x.n=n
 ·rw [if_pos h1,if_pos h1];have hk:(x6 x).kd=x.k:=rfl;rw [hk];by_cases k1:x.k<1
  ·rw [if_neg za,if_neg za,if_neg za,if_pos k1]
  ·rw [if_neg k1];by_cases k3:3<x.k
   ·rw [if_neg za,if_neg za,if_neg za,if_pos k3]
   ·rw [if_neg k3];have:x.k=1\/x.k=2\/x.k=3:=za;rcases this with e|e|e<;>simp [e]
 ·rw [if_neg h1,if_neg h1]
theorem rC (A0:zf)(n0 c0:Nat)(L0:List (Int×Int))(B0:zf)(m0 e0:Nat)(R0:Nat->vd)(w:World)(h0:vm w A0 n0 c0 L0)(k0:rF w B0 m0 e0 R0)(U:uW w):
  Calls prog 4 #[.agg #[.slice A0 n0 c0,.slice B0 m0 e0]] w λe w'=>e=.returned (.bool true)/\Below w.heap.size w w':=by
 have hT:=U.1;obtain⟨ak,T,bz⟩:=zG w 68 #[.slice A0 n0 c0,.slice B0 m0 e0];obtain⟨g0,g1⟩:=T.c2;have HB:=zd ak;have HK:=zd T;have HT:=zd (λW (hb:Below w.heap.size w W)=>hT.on hb);have HE:=zd (λW (hb:Below w.heap.size w W)=>(U.on hb).2);have ag:=zd (λW (hb:Below w.heap.size w W)=>WR (hT.on hb) (h0.below hb) (k0.below hb));have ai:=zd (aC h0);have aj:=zd (sD k0);have HL:=zd k0.row;have a0:zg ((xf L0).length=n0):=by show _=_;rw [jm];exact h0.len
 have hm0:m0<=1048576:=qC k0.fits k0.small;have hn0:n0<=1048576:=qC h0.fits h0.small;have i0:(0:Int)<=(m0:Int):=za;clear h0 k0 hT U ak T bz;go_enter func4,ntmps4;go_wp2_with fail;generalize w.alloc (.cells #[.slice A0 n0 c0,.slice B0 m0 e0] 68)=W1 at*;(with_reducible refine(YT (HT.o _ HB.o)).mono ?_);rintro e w2 ⟨rfl,hb⟩;obtain⟨g0,g1⟩:=zX hb g0 g1;have M:=zd (ze HB.o hb);have aa:=zd (zj hb HK.o);clear hb HB HK;go_wp2_with fail;(with_reducible refine(ag.o _ M.o).mono ?_);rintro e w3 ⟨D,d,A,q,rfl,I,hb⟩;obtain⟨P,hP⟩:∃P,pB L0 R0 m0=P:=⟨_,rfl⟩;have HP:=zd hP;rw [hP] at I;rw [hP];have a3:zg (p6 1 P.rows):=by show p6 1 P.rows;rw [<-hP];exact aj.o
 have a4:zg (zI 1 P.cost):=by show zI 1 P.cost;rw [<-hP];exact ai.o
 clear hP;obtain⟨pn,V⟩:∃n,P.cost.length=n:=⟨_,rfl⟩;obtain⟨pm,Y⟩:∃n,P.rows.length=n:=⟨_,rfl⟩;rw [V,Y] at I;rw [V,Y];clear V Y;obtain⟨st,d3,d4⟩:=zG w3 42 #[.slice D pn d,.slice A pm q];have Z:=zd (ze (ze M.o hb) st);have O:=zd (I.keep st);have ab:=zd (zj st (zj hb aa.o));have ac:=zd d3;clear hb I M g0 g1 st d3 d4 ag aa aj ai;obtain⟨x0,x1⟩:=ac.o.c2;go_wp2_with fail;generalize w3.alloc (.cells #[.slice D pn d,.slice A pm q] 42)=W4 at*;generalize w3.heap.size=g5 at*;(with_reducible refine(iK O.o).mono ?_);rintro e w5 ⟨v5,rfl,ap,hb⟩;have N:=zd (ze Z.o hb);have L:=zd (O.o.keep hb);have ae:=zd (zj hb ab.o);have ah:=zd ap;obtain⟨x0,x1⟩:=zX hb x0 x1;clear hb ap Z O ab ac;go_wp2_with fail;(with_reducible refine(Zx (HT.o _ N.o) L.o a3.o a4.o).mono ?_);rintro e w6 ⟨A6,n6,c6,z6,B6,ax,al,C6,ay,am,o6,L6,az,an,v6,rfl,aq,hb⟩;obtain⟨st,d3,d4⟩:=zG w6 35 #[.slice A6 n6 c6,.int .i64 z6,.slice B6 ax al,.slice C6 ay am,.int .i64 o6,.slice L6 az an];have H:=ze hb st;have m:=zd (ze N.o H);have af:=zd (zj H ae.o);have S:=zd (ah.o.below H);have R:=zd (aq.below st);obtain⟨k0,k1⟩:=af.o.c2;clear hb aq H st d3 d4 N ae ah L x0 x1;go_wp2_with fail;generalize w6.alloc (.cells #[.slice A6 n6 c6,.int .i64 z6,.slice B6 ax al,.slice C6 ay am,.int .i64 o6,.slice L6 az an] 35)=W7 at*;generalize w6.heap.size=g7 at*;obtain⟨ps,J⟩:∃ps,rj R0 m0=ps:=⟨_,rfl⟩;have a1:=zd J;have av:ps.length=m0:=by rw [<-J];exact nN _ _
 have Q:=zd av;have a2:zg (∀i,i<m0->xi n0 (ps.getD i zN)=if (R0 i).n=n0 then(if (R0 i).k<1 then 160 else if 3<(R0 i).k then 160 else 0) else 2):=λi hi=>by
  rw [<-J,VQ R0 hi];exact nF n0 (HL.o i hi).1
 clear J av;have ao:=qY W7.heap.size W7;have hw1:IntKind.i64.wrap ((m0:Int) - 1)=(m0:Int) - 1:=by rw [IntKind.wrap_i64];omega
 go_loopg [7,8,9,10] (m0+1) (λg s7 s8 s9 a6 wr=>∃(j:Nat) (er:Er),j<=m0/\j<g/\a6=.int .i64 ((j:Int) - 1)/\s7=.int .i64 er.n/\s8=.string er.s/\s9=.int .i64 er.k/\zg (er=xh n0 (ps.drop j) j)/\Below W7.heap.size W7 wr)
 case atStart=>exact⟨m0,.no,qX _,za,rfl,rfl,rfl,rfl,by show _=_;rw [QM (by have:=Q.o;omega)];rfl,ao⟩
 case round=>
  clear ao k0 k1;obtain⟨j,er,hjm,hg,rfl,rfl,rfl,rfl,z,hB⟩:=hrel;obtain⟨k0,k1⟩:=(zj hB af.o).c2;cases j with
  |zero=>
    have a5:decide ((((0:Nat):Int) - 1)>=0)=false:=zh;have B:xu P=if 24<n0 then .bare 2 else if 20<m0 then .bare 2 else er:=by
     rw [<-HP.o];have h1:(pB L0 R0 m0).cost.length=n0:=a0.o;have h2:(pB L0 R0 m0).rows=ps:=a1.o;unfold xu;rw [h1,h2,Q.o,z.o,List.drop_zero]
    have K:=Va P;have u:=zd hB;clear hB z;by_cases h24:24<n0
    ·have d1:decide ((n0:Int)>24)=true:=decide_eq_true za;have h:xu P=.bare 2:=by rw [B,if_pos h24]
     have t:(Er.bare 2).rowed:=trivial;clear B K h24;have E:zg (∀W,Below W7.heap.size W7 W->Calls prog 20 #[v5,.int .i64 2,.string {data:=#[]},.int .i64 0] W λe w'=>e=.returned (.bool true)/\Below W.heap.size W w'):=λW hb=>mv (.bare 2) v5 W (by rw [<-h];exact S.o.below hb) (HE.o _ (ze m.o hb)) t;have F:zg (∀W,Below W7.heap.size W7 W->Calls prog 20 #[v6,.int .i64 2,.string {data:=#[]},.int .i64 0] W λe w'=>e=.returned (.bool true)/\Below W.heap.size W w'):=λW hb=>mv (.bare 2) v6 W (by rw [<-h];exact R.o.below hb) (HE.o _ (ze m.o hb)) t;clear h t;go_wp2_with fail;refine(E.o _ u.o).mono ?_;rintro e X1 ⟨rfl,hb⟩;have a:=zd (ze u.o hb);clear hb;go_wp2_with fail;refine(F.o _ a.o).mono ?_;rintro e X2 ⟨rfl,hb⟩;have C:=zd (ze m.o (ze a.o hb));clear hb k0 k1;go_wp2;go_ret;exact⟨rfl,C.o⟩
    ·have d1:decide ((n0:Int)>24)=false:=decide_eq_false za;by_cases h20:20<m0
     ·have d2:decide ((m0:Int)>20)=true:=decide_eq_true za;have h:xu P=.bare 2:=by rw [B,if_neg h24,if_pos h20]
      have t:(Er.bare 2).rowed:=trivial;clear B K h24 h20;have E:zg (∀W,Below W7.heap.size W7 W->Calls prog 20 #[v5,.int .i64 2,.string {data:=#[]},.int .i64 0] W λe w'=>e=.returned (.bool true)/\Below W.heap.size W w'):=λW hb=>mv (.bare 2) v5 W (by rw [<-h];exact S.o.below hb) (HE.o _ (ze m.o hb)) t;have F:zg (∀W,Below W7.heap.size W7 W->Calls prog 20 #[v6,.int .i64 2,.string {data:=#[]},.int .i64 0] W λe w'=>e=.returned (.bool true)/\Below W.heap.size W w'):=λW hb=>mv (.bare 2) v6 W (by rw [<-h];exact R.o.below hb) (HE.o _ (ze m.o hb)) t;clear h t;go_wp2_with fail;refine(E.o _ u.o).mono ?_;rintro e X1 ⟨rfl,hb⟩;have a:=zd (ze u.o hb);clear hb;go_wp2_with fail;refine(F.o _ a.o).mono ?_;rintro e X2 ⟨rfl,hb⟩;have C:=zd (ze m.o (ze a.o hb));clear hb k0 k1;go_wp2;go_ret;exact⟨rfl,C.o⟩
     ·have d2:decide ((m0:Int)>20)=false:=decide_eq_false za;have h:xu P=er:=by rw [B,if_neg h24,if_neg h20]
      have t:er.rowed:=h▸K;clear B K h24 h20;have E:zg (∀W,Below W7.heap.size W7 W->Calls prog 20 #[v5,.int .i64 er.n,.string er.s,.int .i64 er.k] W λe w'=>e=.returned (.bool true)/\Below W.heap.size W w'):=λW hb=>mv (er) v5 W (by rw [<-h];exact S.o.below hb) (HE.o _ (ze m.o hb)) t;have F:zg (∀W,Below W7.heap.size W7 W->Calls prog 20 #[v6,.int .i64 er.n,.string er.s,.int .i64 er.k] W λe w'=>e=.returned (.bool true)/\Below W.heap.size W w'):=λW hb=>mv (er) v6 W (by rw [<-h];exact R.o.below hb) (HE.o _ (ze m.o hb)) t;clear h t;go_wp2_with fail;refine(E.o _ u.o).mono ?_;rintro e X1 ⟨rfl,hb⟩;have a:=zd (ze u.o hb);clear hb;go_wp2_with fail;refine(F.o _ a.o).mono ?_;rintro e X2 ⟨rfl,hb⟩;have C:=zd (ze m.o (ze a.o hb));clear hb k0 k1;go_wp2;go_ret;exact⟨rfl,C.o⟩
  |succ i=>
    have au:i<m0:=za;have ar:(((i+1:Nat):Int) - 1)=(i:Int):=za;rw [ar];obtain⟨-,ad,rfl,-,c0,c1,c2,c3⟩:=HL.o i au;have c0:=zq hB (zq m.o c0);have c1:=zq hB (zq m.o (v8 c1));have a5:decide ((i:Int)>=0)=true:=decide_eq_true za;have i1:(0:Int)<=(i:Int):=za;have i2:(i:Int)<(m0:Int):=za;have aw:=a2.o i au;have X:=Yt (n:=n0) (ps:=ps) (i:=i) (by have:=Q.o;omega);rw [<-z.o,aw] at X;have v:=zd X;have u:=zd hB;clear hB aw X ar c2 c3;generalize R0 i=x at*;go_upto_region 10 with fail;have G:=zd ((qY wr.heap.size wr).drew);refine rg (zk k0 (zk k1 (zk c0 zQ))) (λhHeld=>?_);have k1:=zq G.o k1;have c1:=zq G.o c1;clear k0 c0;have a:=zd (ze u.o G.o);clear u G;generalize wr.drew=D1 at*;refine tk 0 ?_;refine tk 1 ?_;refine tk 2 ?_;refine tk 3 ?_;refine tk 4 ?_;refine tk 5 ?_;refine tk 6 ?_;refine tk 7 ?_;refine tk 8 ?_;refine tk 9 ?_;refine tk 10 ?_;by_cases hx:x.n=n0
    ·have e9:((x.n:Int) !=(n0:Int))=false:=by simp [hx]
     by_cases k1':x.k<1
     ·have d1:decide (x.k<1)=true:=decide_eq_true k1';have y:zg (Er.spot 160 vQ i=xh n0 (ps.drop i) i):=by show _=_;rw [v.o,if_pos hx,if_pos k1'];rfl
      clear hx k1';refine z8 ?_;clear hHeld z v;go_wp2;go_roundg (i+1)
      case measure=>omega
      case rel=>exact⟨i,.spot 160 vQ i,za,za,by go_num,rfl,rfl,rfl,y,a.o⟩
     ·have d1:decide (x.k<1)=false:=decide_eq_false k1';by_cases k3:3<x.k
      ·have d2:decide (x.k>3)=true:=decide_eq_true k3;have d3:decide (3<x.k)=true:=decide_eq_true k3;have y:zg (Er.spot 160 vQ i=xh n0 (ps.drop i) i):=by show _=_;rw [v.o,if_pos hx,if_neg k1',if_pos k3];rfl
       clear hx k1' k3;refine z8 ?_;clear hHeld z v;go_wp2;go_roundg (i+1)
       case measure=>omega
       case rel=>exact⟨i,.spot 160 vQ i,za,za,by go_num,rfl,rfl,rfl,y,a.o⟩
      ·have d2:decide (x.k>3)=false:=decide_eq_false k3;have d3:decide (3<x.k)=false:=decide_eq_false k3;have y:zg (er=xh n0 (ps.drop i) i):=by show _=_;rw [v.o,if_pos hx,if_neg k1',if_neg k3];rfl
       clear hx k1' k3;refine z8 ?_;clear hHeld z v;go_wp2;go_roundg (i+1)
       case measure=>omega
       case rel=>exact⟨i,er,za,za,by go_num,rfl,rfl,rfl,y,a.o⟩
    ·have e9:((x.n:Int) !=(n0:Int))=true:=by rw [bne_iff_ne];omega
     have y:zg (Er.spot 2 vQ i=xh n0 (ps.drop i) i):=by show _=_;rw [v.o,if_neg hx];rfl
     clear hx;refine z8 ?_;clear hHeld z v;go_wp2;go_roundg (i+1)
     case measure=>omega
     case rel=>exact⟨i,.spot 2 vQ i,za,za,by go_num,rfl,rfl,rfl,y,a.o⟩
