/- What this claim leans on. -/
import Derived.Test.YtielpgdebeggbaaGreatDoorWBunQ
import Derived.Deep.RegionLaw
import Derived.Laws.BytesArg
import Derived.LoopIn
import Derived.LoopNIn
import Derived.OrdersHeld
import Derived.OrdersIn
import Derived.OwnWalkIn
import Derived.RangeFuncBound
import Derived.RangeFuncCalls
import Derived.RangeFuncLeaves
import Derived.RangeFuncNested
import Derived.Shelf.Abstract
import Derived.Shelf.RegionOpen
import Derived.TacticsInMore
set_option linter.unusedVariables false
set_option linter.unusedSimpArgs false
namespace Go.Proofs.YtielpgdebeggbaaGreatDoor
open Go Go.RowKit Go.Proofs.Tryz
set_option maxHeartbeats 16000000
variable {y:Int}{D:List Nat}{B g i x:Nat}{v v':Value}{w w':World}
def zt (w:World):Prop:=∀j,j<Lib.deBruijn64tab.length->w.cell? ⟨0,j,none⟩=some (.int .u8 (Lib.deBruijn64tab.getD j 0:Nat))
theorem zt.below (h:zt w)(hb:Below B w w')(hB:0<B):zt w':=λj hj=>(hb.cell (p:=⟨0,j,none⟩) hB).trans (h j hj)
theorem zt.drewN (h:zt w)(n:Nat):zt (w.drewN n):=h
theorem zt.on (h:zt w)(hb:Below w.heap.size w w'):zt w':=h.below hb (by
 have:=h 0 zf;exact QB w _ this)
theorem kQ (x a:Nat)(hx:x<18446744073709551616)(hx0:x≠0)(c:x&&&(18446744073709551616 - x)=a):
  IntKind.u64.wrap (bits BinOp.and IntKind.u64 (x:Int) (IntKind.u64.wrap (-(x:Int)))*285870213051353865) / 288230376151711744=((a*285870213051353865%18446744073709551616 / 288230376151711744:Nat):Int):=by
 have e1:IntKind.u64.wrap (-(x:Int))=((18446744073709551616 - x:Nat):Int):=by rw [xY];omega
 rw [e1,bits_and_u64_nat x _ hx zb,c,xY];omega
theorem T1 (x k a:Nat)(w:World)(hx0:((x:Int)==0)=false)
  (c:IntKind.u64.wrap (bits BinOp.and IntKind.u64 (x:Int) (IntKind.u64.wrap (-(x:Int)))*285870213051353865) / 288230376151711744=(a:Int))
  (hi:a<64) (hk:k<64) (hcell:w.cell? ⟨0,a,none⟩=some (.int .u8 k)):
  Calls prog 160 #[.int .u64 x] w λe w'=>e=.returned (.int .i64 k)/\w=w':=by
 go_enter func160,ntmps160;go_wp2_with (simp only [c]);go_ret;exact⟨rfl,rfl⟩
theorem T2 (w:World):
  Calls prog 160 #[.int .u64 0] w λe w'=>e=.returned (.int .i64 64)/\w=w':=by
 go_enter func160,ntmps160;go_wp2;go_ret;exact⟨rfl,rfl⟩
theorem U0 (x:Int)(hx:Wd x)(w:World)(hT:zt w):
  Calls prog 160 #[.int .u64 x] w λe w'=>e=.returned (.int .i64 (jv x))/\w=w':=by
 obtain⟨h0,h1⟩:=hx;obtain⟨x,rfl⟩:=xP h0;have hN:x<18446744073709551616:=zb;unfold jv;rw [Int.toNat_natCast];by_cases hx0:x=0
 ·subst hx0;exact T2 w
 ·obtain⟨c,hk⟩:=Lib.lowest_bit 64 x hx0 hN;obtain⟨hi,d⟩:=Lib.deBruijn64_at _ hk;have a:=hT _ hi;rw [d] at a;exact T1 x _ _ w (by simp;omega) (kQ x _ hN hx0 c) hi hk a
theorem Rb (x:Int)(hx:Wd x)(w:World)(hT:zt w):
  Calls prog 150 #[.int .u64 x] w λe w'=>e=.returned (.int .i64 (jv x))/\w=w':=by
 have H:=za (U0 x hx w hT);clear hT;go_enter func150,ntmps150;go_wp2_with (go_at_call 160;refine H.o.mono ?_;rintro e w' ⟨rfl,rfl⟩);go_ret;exact⟨rfl,rfl⟩
def sj (x y:Int):Int:=if x<y then -1 else if x=y then 0 else 1
theorem dR (x y:Int):sj x y=0↔x=y:=by unfold sj;split<;>(try split)<;>omega
def sP (x:Int):Int:=if x<0 then -1 else if x=0 then 0 else 1
def qI (x y:Int):Int:=if 0<=y then x / y else(-x) / (-y)
def rI (x y:Int):Int:=if 0<=y then x%y else -((-x)%(-y))
theorem gh (x y:Int):qI x y*y+rI x y=x:=by
 unfold qI rI
 split
 ·rw [yU];exact XT x y
 ·have h:=XT (-x) (-y);rw [Int.neg_mul] at h;rw [yU];omega
theorem pw {x:Int}(hy:y≠0):(rI x y).natAbs<y.natAbs:=by
 unfold rI
 split
 ·have h1:=YE x hy;have h2:=YO x (show 0<y by omega);omega
 ·have h1:=YE (-x) (show -y≠0 by omega);have h2:=YO (-x) (show 0< -y by omega);omega
theorem mt {x:Int}(hy:y≠0):rI x y=0\/(0<rI x y/\0<y\/rI x y<0/\y<0):=by
 unfold rI
 split
 ·have h1:=YE x hy;omega
 ·have h1:=YE (-x) (show -y≠0 by omega);omega
set_option maxRecDepth 100000
theorem mf (x y:Nat)(A D:ze)(n m c d:Nat)(w:World)(hA:zp w x A n c)(hD:zp w y D m d)(hn:n<=549755813888)(hm:m<=549755813888):
  Calls prog 144 #[.agg #[.slice A n c],.agg #[.slice D m d]] w (xu w (x+y)):=by
 obtain⟨i0,ae,am,an,ao⟩:=info_parts oS;have aj:=za hA.len;have ai:=za hD.len;have HA:=zj w (λw' hb=>hA.below hb);have HD:=zj w (λw' hb=>hD.below hb);obtain⟨N,hN⟩:∃N,max n m=N:=⟨_,rfl⟩;have hN1:n<=N:=zb;have hN2:m<=N:=zb;have hN3:N<=549755813888:=zb;obtain⟨Z,hZ⟩:∃Z,madeCells (Value.cells (.int .u64 0)) ((N+1)*i0.size)=Z:=⟨_,rfl⟩;have HZ:zd (Z.size=N+1):=by show _=_;rw [<-hZ,size_madeCells,an,xV]
 have ak:∀W:World,(Instr.makeSlice 46 (.int .i64 ((N:Int)+1)) (.int .i64 ((N:Int)+1))).run prog W=.ok (.slice (some ⟨W.heap.size,0,none⟩) (N+1) (N+1)) (W.alloc (.cells Z 133)):=λW=>by
  rw [<-hZ];exact sx _ _ i0 _ underlying46 ae am _ _ (N+1) (N+1) (qX _) (by rw [ao];omega) zb W
 have al:IntKind.i64.wrap ((N:Int)+1)=(N:Int)+1:=QP _ zb;have O:(if (n:Int)<(m:Int) then(m:Int) else(n:Int))=(N:Int):=by split<;>omega
 have P:(if n<m then(m:Int) else(n:Int))=(N:Int):=by split<;>omega
 have Q:(if (m:Int)>(n:Int) then(m:Int) else(n:Int))=(N:Int):=by split<;>omega
 clear hZ hA hD hN;go_enter func144,ntmps144;go_wp2_with fail;generalize hW:((w.alloc (.cells #[.slice A n c] 48)).alloc (.cells #[.slice D m d] 48)).alloc (.cells #[.slice none 0 0] 48)=W0;obtain⟨b1,b2,b3,b4,b5⟩:=y9 w 48 48 48 #[.slice A n c] #[.slice D m d] #[.slice none 0 0];rw [hW] at b1 b2 b3 b4 b5;have g1:W0.cell? ⟨w.heap.size,0,none⟩=some (.slice A n c):=b2.cell 0;have g2:W0.cell? ⟨w.heap.size+1,0,none⟩=some (.slice D m d):=b3.cell 0;clear hW b2 b3;have t:=b1.drew;have z:=b4.drew
 go_region_held3 (fun w' => Below w.heap.size w w' ∧ w'.cell? ⟨w.heap.size,0,none⟩ = some (.slice A n c) ∧ w'.cell? ⟨w.heap.size + 1,0,none⟩ = some (.slice D m d) ∧ zh w' (w.heap.size + 1 + 1) 48 #[.slice none 0 0])
  (first|(exact⟨t,g1,g2,z⟩)|(go_split_ands;(repeat' apply And.intro);all_goals (first|exact zm|exact zc zm hb|exact zv hb zm|exact zg hb zm|exact xn _ zm|exact xv _ zm|exact zh.alloc zm _|exact zM _ (by simp;omega) zm|exact yn _ (by simp;omega) zm|exact zh.far zm (by simp;omega) _)))
  (first
    |(go_at_call 104;refine(vX x _ _ _ _).mono ?_;rintro e w' ⟨rfl,hb⟩))
 rename_i w1 hb1 hH
 obtain⟨hB,g1,g2,hk⟩:=hH;have hgs:w.heap.size+3<=w'.heap.size:=by
  have h1:=hb1.size;have h2:=hb.size;have h3:W0.drew.heap.size=W0.heap.size:=rfl;omega
 have K:=zh.new w' 133 Z;generalize w'.alloc (.cells Z 133)=W1 at*;generalize w'.heap.size=gs at*;clear ak O P Q hb hb1 t z b1 b4 b5 al;go_wp2_with fail
 go_loopg [6,7,17] (N + 2) (fun g v _ i wr => ∃ (k cc : Nat) (cs : Array Value) (out : List Nat),k ≤ N + 1 ∧ N + 1 < g + k ∧ i = .int .i64 k ∧ v = .int .u64 cc ∧ vz x y k out cc ∧ cs.size = N + 1 ∧ cs.toList.take k = zB .u64 out ∧ zh wr gs 133 cs ∧
   Below w.heap.size w wr/\wr.cell? ⟨w.heap.size,0,none⟩=some (.slice A n c)/\wr.cell? ⟨w.heap.size+1,0,none⟩=some (.slice D m d)/\zh wr (w.heap.size+1+1) 48 #[.slice none 0 0])
 case atStart=>exact⟨0,0,Z,[],zb,zb,rfl,rfl,vz.start x y,HZ.o,rfl,K,hB,g1,g2,hk⟩
 case round=>
  clear hB g1 g2 hk K;obtain⟨k,cc,cs,out,hk,hg,rfl,rfl,j,hsz,F,C,hB,g1,g2,B⟩:=hrel;have M:=j.carry;by_cases hlt:k<N+1
  ·have E:=j.step (s:=wd x k+wd y k+cc) rfl;have aa:=wJ x k;have ab:=wJ y k;have WX:=zj w (λw' h=>lF x A n c k w' (HA.o w' h));have WY:=zj w (λw' h=>lF y D m d k w' (HD.o w' h));obtain⟨a,ha⟩:∃a,wd x k=a:=⟨_,rfl⟩;obtain⟨b,hb⟩:∃a,wd y k=a:=⟨_,rfl⟩;rw [ha] at WX aa E;rw [hb] at WY ab E;have WA:∀w',Calls prog 153 #[.int .u64 a,.int .u64 b,.int .u64 cc] w' λe U=>e=.returned (.tuple #[.int .u64 (((a+b+cc)%18446744073709551616:Nat):Int),.int .u64 (((a+b+cc) / 18446744073709551616:Nat):Int)])/\w'=U:=λw'=>by
    rw [<-Wh M,<-Wg M];exact Ug a b cc ⟨zb,zb⟩ ⟨zb,zb⟩ ⟨zb,zb⟩ w'
   have H:=za E;have I:=za hsz;have V:=za F;obtain⟨s1,e1⟩:∃s1,(a+b+cc)%18446744073709551616=s1:=⟨_,rfl⟩;obtain⟨s2,e2⟩:∃s2,(a+b+cc) / 18446744073709551616=s2:=⟨_,rfl⟩;rw [e1,e2] at WA H;have X:=za WA;obtain⟨u,hu⟩:∃u,cs[k]?=some u:=⟨cs[k]' zb,QY zb⟩;have HU:=za hu;clear WA E ha hb e1 e2 j F hu hsz;have i1:(0:Int)<=(k:Int):=zb;have i2:(k:Int)<(N:Int)+1:=zb;go_wp2_with fail;have t:=hB.drew;have z:=B.drew;have ac:=C.drew
   go_region_held3 (λw'=>Below w.heap.size w w'/\w'.cell? ⟨w.heap.size,0,none⟩=some (.slice A n c)/\w'.cell? ⟨w.heap.size+1,0,none⟩=some (.slice D m d)/\zh w' (w.heap.size+1+1) 48 #[.slice none 0 0])
   (first | (exact ⟨t,g1,g2,z⟩) | (go_split_ands; (repeat' apply And.intro); all_goals (first | exact zm | exact zc zm hb | exact zv hb zm | exact zg hb zm | exact xn _ zm | exact xv _ zm | exact zh.alloc zm _ | exact zM _ (by simp; omega) zm | exact yn _ (by simp; omega) zm | exact zh.far zm (by simp; omega) _)))
     (first
       |(go_at_call 126;with_reducible refine(WX.o _ (by first|exact zm|exact YI zm)).mono ?_;rintro e w' ⟨rfl,hb⟩;have o:zh w' gs 133 cs:=zg hb zm;have q1:=(o.cell k).trans HU.o;have q2:=o.frozen k)
       |(go_at_call 126;with_reducible refine(WY.o _ (by first|exact zm|exact YI zm)).mono ?_;rintro e w' ⟨rfl,hb⟩;have o:zh w' gs 133 cs:=zg hb zm;have q1:=(o.cell k).trans HU.o;have q2:=o.frozen k)
       |(go_at_call 153;with_reducible refine(X.o _).mono ?_;rintro e U ⟨rfl,rfl⟩))
   rename_i hH
   obtain⟨Y,g3,g4,af⟩:=hH;have ag:=o.set_ k (.int .u64 s1);clear hb o q1 q2 t z ac hB g1 g2 B C;go_wp2;go_roundg (N+1 - k)
   case measure=>omega
   case rel=>exact⟨k+1,s2,_,_,zb,zb,by go_num,rfl,H.o,by simpa using I.o,by rw [Zt _ _ _ (by have:=I.o;omega),V.o,gU],ag,Y,g3,g4,af⟩
  ·have ah:k=N+1:=zb;subst ah;have e:=j.done (by have:=aj.o;omega) (by have:=ai.o;omega);have R:out.length=N+1:=j.len;have T:=fq (some ⟨gs,0,none⟩) (N+1) (N+1) wr.heap.size out wr (ia C hsz F R) j.dgs (qX _) zb zb;rw [e] at T;have HT:=za T;have ad:wr.cell? ⟨w.heap.size+1+1,0,none⟩=some (.slice none 0 0):=B.cell 0;have hf1:=B.frozen 0;clear T C hsz F j e R B g1 g2;go_wp2_with fail;refine HT.o.mono ?_;rintro e w2 ⟨A1,c1,rfl,S,h1,h2,J,rfl⟩;have G:=eR hB (p:=w.heap.size+1+1) (gs:=gs) zb zb S h1 h2 J zb (.slice A1 (dg 18446744073709551616 (x+y)).length c1);have HG:zd (xu w (x+y) (.returned (.agg #[.slice A1 (dg 18446744073709551616 (x+y)).length c1])) (wr.setCell ⟨w.heap.size+1+1,0,none⟩ (.slice A1 (dg 18446744073709551616 (x+y)).length c1))):=⟨_,_,_,rfl,G.2.1,G.1,G.2.2⟩;clear G S h1 h2 J;obtain⟨L,hL⟩:∃L,(dg 18446744073709551616 (x+y)).length=L:=⟨_,rfl⟩;rw [hL] at HG⊢;clear hL;go_wp2;refine bodyPost_ret (v:=.agg #[.slice A1 L c1]) (by simp [results,results144,go_sem,ad]) rfl ?_;exact HG.o
theorem Rj (x y:Nat)(A D:ze)(n m c d:Nat)(w:World)(hA:zp w x A n c)(hD:zp w y D m d)(hn:n<=549755813888)(hm:m<=549755813888)(a:x<y):
  Calls prog 145 #[.agg #[.slice A n c],.agg #[.slice D m d]] w (ij w 0 false):=by
 have CC:=zj w (λw' hb=>jn x y A D n m c d w' (hA.below hb) (hD.below hb) zb zb);rw [lJ a] at CC;clear hA hD a;go_enter func145,ntmps145;go_wp2_with fail;generalize hW:((w.alloc (.cells #[.slice A n c] 48)).alloc (.cells #[.slice D m d] 48)).alloc (.cells #[.slice none 0 0] 48)=W0;obtain⟨b1,b2,b3,b4,b5⟩:=y9 w 48 48 48 #[.slice A n c] #[.slice D m d] #[.slice none 0 0];rw [hW] at b1 b2 b3 b4 b5;clear hW b2 b3;refine(CC.o _ b1).mono ?_;rintro e w1 ⟨rfl,hb⟩;have hB:=zc b1 hb;have hk:=zg hb b4;have g:w1.cell? ⟨w.heap.size+1+1,0,none⟩=some (.slice none 0 0):=hk.cell 0;have hf1:=hk.frozen 0;have HG:zd (ij w 0 false (.returned (.tuple #[.agg #[.slice none 0 0],.bool false])) (w1.setCell ⟨w.heap.size+1+1,0,none⟩ (.slice none 0 0))):=⟨_,_,_,rfl,aO _,zM _ (by show _<=w.heap.size+1+1;omega) hB,sf.none_ _⟩;clear hB hk hb b1 b4;go_wp2;refine bodyPost_ret (v:=.tuple #[.agg #[.slice none 0 0],.bool false]) (by simp [results,results145,go_sem,g]) rfl ?_;exact HG.o
theorem UK (x y:Nat)(A D:ze)(n m c d:Nat)(w:World)(hA:zp w x A n c)(hD:zp w y D m d)(hn:n<=549755813888)(hm:m<=549755813888)(F:y<=x):
  Calls prog 145 #[.agg #[.slice A n c],.agg #[.slice D m d]] w (ij w (x - y) true):=by
 obtain⟨i0,ai,aq,ar,au⟩:=info_parts oS;have am:=za hA.len;have HA:=zj w (λw' hb=>hA.below hb);have HD:=zj w (λw' hb=>hD.below hb);have X:=za F;have E:=nh F;have CC:=(λw' (hb:Below w.heap.size w w')=>jn x y A D n m c d w' (hA.below hb) (hD.below hb) zb zb);obtain⟨z,hz⟩:∃z,x4 x y=z:=⟨_,rfl⟩;rw [hz] at CC E;have HC:=za CC;have hzl:¬ z<0:=zb;have hzd:decide (z<0)=false:=by simpa using E
 obtain⟨Z,hZ⟩:∃Z,madeCells (Value.cells (.int .u64 0)) (n*i0.size)=Z:=⟨_,rfl⟩;have HZ:zd (Z.size=n):=by show _=_;rw [<-hZ,size_madeCells,ar,xV]
 have an:∀W:World,(Instr.makeSlice 46 (.int .i64 (n:Int)) (.int .i64 (n:Int))).run prog W=.ok (.slice (some ⟨W.heap.size,0,none⟩) n n) (W.alloc (.cells Z 133)):=λW=>by
  rw [<-hZ];exact sx _ _ i0 _ underlying46 ai aq _ _ n n (qX _) (by rw [au];omega) zb W
 clear hZ hA hD F CC hz;go_enter func145,ntmps145;go_wp2_with fail;generalize hW:((w.alloc (.cells #[.slice A n c] 48)).alloc (.cells #[.slice D m d] 48)).alloc (.cells #[.slice none 0 0] 48)=W0;obtain⟨b1,b2,b3,b4,b5⟩:=y9 w 48 48 48 #[.slice A n c] #[.slice D m d] #[.slice none 0 0];rw [hW] at b1 b2 b3 b4 b5;have g1:W0.cell? ⟨w.heap.size,0,none⟩=some (.slice A n c):=b2.cell 0;have g2:W0.cell? ⟨w.heap.size+1,0,none⟩=some (.slice D m d):=b3.cell 0;clear hW b2 b3;refine(HC.o _ b1).mono ?_;rintro e w1 ⟨rfl,hb⟩;have hB:=zc b1 hb;have hk:=zg hb b4;have g3:=zv hb g1;have g4:=zv hb g2;have ao:=hb.size;clear hb g1 g2 b1 b4;go_wp2_with fail;refine(vX x _ _ _ _).mono ?_;rintro e w2 ⟨rfl,hb⟩;have hB:=zc hB hb;have hk:=zg hb hk;have g1:=zv hb g3;have g2:=zv hb g4;have ap:=hb.size;have hgs:w.heap.size+3<=w2.heap.size:=zb;clear hb g3 g4 ao ap b5;go_wp2_with fail;have K:=zh.new w2 133 Z;have hB:=xn (.cells Z 133) hB;have hk:=hk.alloc (.cells Z 133);have g1:=xv (.cells Z 133) g1;have g2:=xv (.cells Z 133) g2;generalize w2.alloc (.cells Z 133)=W1 at*;generalize w2.heap.size=gs at*;clear an
 go_loopg [7,8,19] (n + 1) (fun g v _ i wr => ∃ (k cc : Nat) (cs : Array Value) (out : List Nat),k ≤ n ∧ n < g + k ∧ i = .int .i64 k ∧ v = .int .u64 cc ∧ vD x y k out cc ∧ cs.size = n ∧ cs.toList.take k = zB .u64 out ∧ zh wr gs 133 cs ∧
   Below w.heap.size w wr/\wr.cell? ⟨w.heap.size,0,none⟩=some (.slice A n c)/\wr.cell? ⟨w.heap.size+1,0,none⟩=some (.slice D m d)/\zh wr (w.heap.size+1+1) 48 #[.slice none 0 0])
 case atStart=>exact⟨0,0,Z,[],zb,zb,rfl,rfl,vD.start x y,HZ.o,rfl,K,hB,g1,g2,hk⟩
 case round=>
  clear hB g1 g2 hk K;obtain⟨k,cc,cs,out,hk,hg,rfl,rfl,j,hsz,C,s,hB,g1,g2,o⟩:=hrel;have ah:=j.lack;by_cases hlt:k<n
  ·have B:=λd c'=>j.step (d:=d) (c':=c');have M:=wJ x k;have N:=wJ y k;have J:=(HA.o wr hB).1;obtain⟨ad,rfl,O,hx⟩:=se J hlt;have hadw:ad.block<w.heap.size:=by
    obtain⟨ad',e,ae,_⟩:=(HA.o w (qZ _ _)).1.2 zb;cases e;exact ae
   rw [oQ] at hx;have WY:=zj w (λw' h=>lF y D m d k w' (HD.o w' h));obtain⟨a,ha⟩:∃a,wd x k=a:=⟨_,rfl⟩;obtain⟨b,hb⟩:∃a,wd y k=a:=⟨_,rfl⟩;rw [ha] at hx M B;rw [hb] at WY N B;obtain⟨s1,s2,e1,e2,e3,e4,e5⟩:=ZM M N ah;have WA:∀w',Calls prog 154 #[.int .u64 a,.int .u64 b,.int .u64 cc] w' λe V=>e=.returned (.tuple #[.int .u64 (s1:Int),.int .u64 (s2:Int)])/\w'=V:=λw'=>by
    rw [<-e1,<-e2];exact Uh a b cc ⟨zb,zb⟩ ⟨zb,zb⟩ ⟨zb,zb⟩ w'
   have Y:=za (B s1 s2 e3 e4 e5);have H:=za hsz;have aa:=za C;have ab:=za WA;obtain⟨u,hu⟩:∃u,cs[k]?=some u:=⟨cs[k]' zb,QY zb⟩;have HU:=za hu;clear WA B ha hb e1 e2 e3 e4 e5 j C hu hsz J O;have i1:(0:Int)<=(k:Int):=zb;have i2:(k:Int)<(n:Int):=zb;go_wp2_with fail;have P:=hB.drew;have Q:=o.drew;have af:=s.drew;have U:wr.drew.cell? (ad.add k)=some (.int .u64 a):=hx
   go_region_held3 (fun w' => Below w.heap.size w w' ∧ w'.cell? ⟨w.heap.size,0,none⟩ = some (.slice (some ad) n c) ∧ w'.cell? ⟨w.heap.size + 1,0,none⟩ = some (.slice D m d) ∧ zh w' (w.heap.size + 1 + 1) 48 #[.slice none 0 0] ∧ w'.cell? (ad.add k) = some (.int .u64 a))
    (first|(exact⟨P,g1,g2,Q,U⟩)|(go_split_ands;(repeat' apply And.intro);all_goals (first|exact zm|exact zc zm hb|exact zv hb zm|exact zg hb zm|exact xn _ zm|exact xv _ zm|exact zh.alloc zm _|exact zM _ (by simp;omega) zm|exact yn _ (by simp;omega) zm|exact yn _ (by rw [yk];simp;omega) zm|exact zh.far zm (by simp;omega) _)))
    (first
      |(go_at_call 126;with_reducible refine(WY.o _ (by first|exact zm|exact YI zm)).mono ?_;rintro e w' ⟨rfl,hb⟩;have t:zh w' gs 133 cs:=zg hb zm;have q1:=(t.cell k).trans HU.o;have q2:=t.frozen k)
      |(go_at_call 154;with_reducible refine(ab.o _).mono ?_;rintro e V ⟨rfl,rfl⟩))
   rename_i hH
   obtain⟨ac,g3,g4,aj,_⟩:=hH;have ak:=t.set_ k (.int .u64 s1);clear hb t q1 q2 P Q af hB g1 g2 o s hx U;go_wp2;go_roundg (n - k)
   case measure=>omega
   case rel=>exact⟨k+1,s2,_,_,zb,zb,by go_num,rfl,Y.o,by simpa using H.o,by rw [Zt _ _ _ (by have:=H.o;omega),aa.o,gU],ak,ac,g3,g4,aj⟩
  ·have al:k=n:=zb;subst al;have e:=j.done X.o (by have:=am.o;omega);have R:out.length=k:=j.len;have T:=fq (some ⟨gs,0,none⟩) k k wr.heap.size out wr (ia s hsz C R) j.dgs (qX _) zb zb;rw [e] at T;have HT:=za T;have ag:wr.cell? ⟨w.heap.size+1+1,0,none⟩=some (.slice none 0 0):=o.cell 0;have hf1:=o.frozen 0;clear T s hsz C j e R o g1 g2;go_wp2_with fail;refine HT.o.mono ?_;rintro e w2 ⟨A1,c1,rfl,S,h1,h2,I,rfl⟩;have G:=eR hB (p:=w.heap.size+1+1) (gs:=gs) zb zb S h1 h2 I zb (.slice A1 (dg 18446744073709551616 (x - y)).length c1);have HG:zd (ij w (x - y) true (.returned (.tuple #[.agg #[.slice A1 (dg 18446744073709551616 (x - y)).length c1],.bool true])) (wr.setCell ⟨w.heap.size+1+1,0,none⟩ (.slice A1 (dg 18446744073709551616 (x - y)).length c1))):=⟨_,_,_,rfl,G.2.1,G.1,G.2.2⟩;clear G S h1 h2 I;obtain⟨L,hL⟩:∃L,(dg 18446744073709551616 (x - y)).length=L:=⟨_,rfl⟩;rw [hL] at HG⊢;clear hL;go_wp2;refine bodyPost_ret (v:=.tuple #[.agg #[.slice A1 L c1],.bool true]) (by simp [results,results145,go_sem,ag]) rfl ?_;exact HG.o
def xt (w:World)(t:TypeId)(g cap n:Nat)(L:List Nat):Prop:=
 ∃cur,zh w g t cur/\n<=cap/\cap<=maxLen/\cur.size=cap/\L.length=n/\cur.toList.take n=zB .u8 L
section
variable {w w':World}{t:TypeId}{g cap n:Nat}{L:List Nat}
theorem xt.len (h:xt w t g cap n L):L.length=n:=by obtain⟨_,_,_,_,_,h,_⟩:=h;exact h
theorem xt.room (h:xt w t g cap n L):n<=cap/\cap<=maxLen:=by obtain⟨_,_,h,h2,_⟩:=h;exact⟨h,h2⟩
theorem xt.lt (h:xt w t g cap n L):g<w.heap.size:=by obtain⟨_,h,_⟩:=h;exact h.lt
theorem xt.cell (h:xt w t g cap n L)(k:Nat)(hk:k<n):w.cell? ⟨g,k,none⟩=some (.int .u8 (L.getD k 0:Nat)):=by
 obtain⟨cur,hb,h1,h2,h3,h4,h5⟩:=h;rw [hb.cell k,<-QS,<-lw .u8 L k zb,<-h5,xD,if_pos hk]
theorem xt.frozen (h:xt w t g cap n L)(k:Nat):w.frozen? ⟨g,k,none⟩=false:=by
 obtain⟨cur,hb,_⟩:=h;exact hb.frozen k
theorem xt.set_ (h:xt w t g cap n L)(k d:Nat)(hk:k<n):xt (w.setCell ⟨g,k,none⟩ (.int .u8 (d:Int))) t g cap n (L.set k d):=by
 obtain⟨cur,hb,h1,h2,h3,h4,h5⟩:=h;refine⟨_,hb.set_ k _,h1,h2,by simpa using h3,by simpa using h4,?_⟩;rw [QD,YV,h5];unfold zB;rw [List.map_set]
theorem xt.below (h:xt w t g cap n L)(hb:Below B w w')(hg:g<B):xt w' t g cap n L:=by
 obtain⟨a,h0,h1⟩:=h;exact⟨a,h0.below hb hg,h1⟩
theorem xt.keep (h:xt w t g cap n L)(hb:Below w.heap.size w w'):xt w' t g cap n L:=h.below hb h.lt
theorem xt.drew (h:xt w t g cap n L):xt w.drew t g cap n L:=h
theorem xt.alloc (h:xt w t g cap n L)(o:Obj):xt (w.alloc o) t g cap n L:=by
 obtain⟨a,h0,h1⟩:=h;exact⟨a,h0.alloc o,h1⟩
theorem xt.far (h:xt w t g cap n L){p:Addr}(hp:g≠p.block)(u:Value):xt (w.setCell p u) t g cap n L:=by
 obtain⟨a,h0,h1⟩:=h;exact⟨a,h0.far hp u,h1⟩
theorem xt.reads (h:xt w t g cap n L):zK w w.heap.size 1 (some ⟨g,0,none⟩) n (zB .u8 L):=by
 have hl:=h.lt;have hc:=h.cell;have hn:=h.len;refine⟨by rw [wS];omega,λ_=>⟨_,rfl,hl,λj u hu=>?_⟩⟩;have hj:j<L.length:=by
  rcases XQ j L.length with hj|hj
  ·exact hj
  ·rw [QL (by rw [wS];exact hj)] at hu;cases hu
 have e:(⟨g,0,none⟩:Addr).add j=⟨g,j,none⟩:=by unfold Addr.add;split<;>simp_all
 rw [e,hc j zb,<-lw .u8 L j hj,hu]
theorem xt.own (h:xt w t g cap n L){a:Nat}(hb:a<=g):w.ownsRow a t 1 (.slice (some ⟨g,0,none⟩) n cap) n (zB .u8 L):=by
 obtain⟨c,h0,h1,h2,h3,h4,h5⟩:=h;exact⟨by rw [wS];omega,.inr ⟨g,cap,c,rfl,hb,h0,h1,h2,zb,by rw [xV];exact h5⟩⟩
theorem xt.made (w:World)(t:TypeId)(N:Nat)(hN:N<=maxLen):xt (w.alloc (.cells (madeCells (Value.cells (.int .u8 0)) N) t)) t w.heap.size N N (List.replicate N 0):=by
 refine⟨_,zh.new w t _,qX _,hN,size_madeCells _ _,zA,?_⟩;show(madeCells #[Value.int .u8 0] N).toList.take N=_;rw [toList_madeCells_one,qV zA];simp [zB]
theorem xt.of_own {l:List Nat}(h:w.ownsRow i t 1 v n (zB .u8 l))(hn:0<n):∃g cap,v=.slice (some ⟨g,0,none⟩) n cap/\i<=g/\xt w t g cap n l:=by
 obtain⟨h1,h2⟩:=h;rcases h2 with⟨_,h⟩|⟨g,cap,cur,e,hb,hk,a,b,c,d⟩
 ·omega
 ·refine⟨g,cap,e,hb,cur,hk,a,b,zb,by rw [wS] at h1;omega,?_⟩;rw [xV] at d;exact d
end
structure si (w:World)(v:Value)(w':World)(v':Value):Prop where
 grown:w.grownBy w' v.ownBlock
 at_:v'.ownBlock=v.ownBlock\/∀g,v'.ownBlock=some g->w.heap.size<=g
theorem si.refl (w:World)(v:Value):si w v w v:=⟨World.grownBy.refl _ _,.inl rfl⟩
theorem si.alloc (w:World)(v:Value)(o:Obj):si w v (w.alloc o) v:=⟨jQ w o _,.inl rfl⟩
theorem si.trans {w1 w2:World}{v1 v2:Value}(h:si w v w1 v1)(k:si w1 v1 w2 v2):si w v w2 v2:=by
 refine⟨⟨k.grown.os.trans h.grown.os,k.grown.tape.trans h.grown.tape,k.grown.output.trans h.grown.output,qH h.grown.size k.grown.size,λi hi a=>?_⟩,?_⟩
 ·refine(k.grown.block i (qJ hi h.grown.size) (λe=>?_)).trans (h.grown.block i hi a);rcases h.at_ with h1|h1
  ·exact a (by rw [e,h1])
  ·have:=h1 i e.symm;omega
 ·rcases k.at_ with k1|k1
  ·rw [k1];exact h.at_
  ·exact .inr λg hg=>qH h.grown.size (k1 g hg)
theorem si.below (hb:Below w.heap.size w w'):si w v w' v:=⟨⟨hb.os,hb.tape,hb.output,hb.size,λi hi _=>hb.block i hi⟩,.inl rfl⟩
def vH (n p:Nat):List Nat:=(List.range n).map λk=>p / 10^k%10
theorem V2 (n p:Nat):(vH n p).length=n:=by simp [vH]
theorem QF (n p:Nat):vH (n+1) p=vH n p++[p / 10^n%10]:=by simp [vH,yL]
theorem qg (n p:Nat):zG 10 (vH n p):=by
 intro d hd;obtain⟨j,_,rfl⟩:=List.mem_map.1 hd;exact xG _ zf
theorem Ux (p:Nat):∀n,dv 10 (vH n p)=p%10^n
 |0=>by simp [vH,dv,XX]
 |n+1=>by rw [QF,vK,Ux p n,V2,vW 10 p n]
theorem VC (l:List Nat)(i k a:Nat):(l.set i a).getD k 0=if i=k/\k<l.length then a else l.getD k 0:=by
 simp only [qQ,List.getElem?_set];by_cases h:i=k
 ·subst h;by_cases h2:i<l.length
  ·simp [h2]
  ·simp [h2]
 ·simp [h]
def fJ (L:List Nat)(i:Nat)(M:List Nat):Prop:=M.length=L.length/\∀j,j<L.length->M.getD j 0=if j<i\/L.length<=j+i then L.getD (L.length - 1 - j) 0 else L.getD j 0
theorem fJ.start (L:List Nat):fJ L 0 L:=⟨rfl,λj hj=>by rw [if_neg zb]⟩
theorem fJ.step {L M:List Nat}{j:Nat}(h:fJ L i M)(hij:i+j+1=L.length)(hlt:i<j):fJ L (i+1) ((M.set i (M.getD j 0)).set j (M.getD i 0)):=by
 obtain⟨h1,h2⟩:=h;refine⟨by simpa using h1,λk hk=>?_⟩;rw [VC,VC,QX,h1];by_cases hkj:j=k
 ·subst hkj;rw [if_pos ⟨rfl,hk⟩,if_pos zb,h2 i zb,if_neg zb];congr 1;omega
 ·rw [if_neg zb];by_cases hki:i=k
  ·subst hki;rw [if_pos ⟨rfl,hk⟩,if_pos zb,h2 j zb,if_neg zb];congr 1;omega
  ·rw [if_neg zb,h2 k hk];by_cases hc:k<i\/L.length<=k+i
   ·rw [if_pos hc,if_pos zb]
   ·rw [if_neg hc,if_neg zb]
theorem yv.drew (h:yv g w w'):yv g w w'.drew:=⟨h.os,h.tape,h.output,h.size,h.block⟩
def sS (v:Value)(B:ze)(m:Nat):Prop:=0<m->∀ad,B=some ad->v.ownBlock≠some ad.block
theorem sS.words {m d:Nat}{B:ze}(h:sS v B m)(hx:zp w x B m d)(hg:si w v w' v'):zp w' x B m d/\sS v' B m:=by
 refine⟨Y9 hx hg.grown (λhm ad e=>(h hm ad e).symm),λhm ad e=>?_⟩;rcases hg.at_ with h1|h1
 ·rw [h1];exact h hm ad e
 ·intro h2;have:=h1 _ h2;obtain⟨ad',e',hb,_⟩:=hx.1.2 hm;rw [e] at e';injection e' with e';subst e';omega
theorem si.blk {a n:Nat}{t e:TypeId}{cs:Array Value}{vs:List Value}(h:si w v w' v')(hv:w.ownsRow a e 1 v n vs)(hk:zh w g t cs)(hg:g<a):zh w' g t cs:=
 hk.grown h.grown (λe=>by have:=(hv.lt g e.symm).1;omega)
def jA (x y:Nat)(D:List Nat):Prop:=zG 10 D/\dv 10 D+10^D.length*y=x
theorem jA.start (x:Nat):jA x x []:=⟨λd hd=>by simp at hd,by simp [dv]⟩
theorem jA.step {y:Nat}(h:jA x y D):jA x (y / 10000000000000000000) (D++vH 19 (y%10000000000000000000)):=by
 refine⟨h.1.append (qg _ _),?_⟩;rw [tF,qB,V2,Ux,xI,show(10:Nat)^19=10000000000000000000 from rfl,Nat.mod_mod,qD,xA,<-qE,XL];exact h.2
theorem jA.len {y:Nat}(h:jA x y D)(hy:y≠0):10^D.length<=x:=by
 have:=h.2;have h1:10^D.length*1<=10^D.length*y:=QM _ zb;omega
