/- What this claim leans on. -/
import Derived.Test.YtdfdjfiognhbgaaGreatDoorDMeet4
import Derived.Deep.Matrix
set_option linter.unusedVariables false
set_option linter.unusedSimpArgs false
namespace Go.Proofs.YtdfdjfiognhbgaaGreatDoor
open Go Go.RowKit Go.Proofs.Tryz
open Go.ChangeShapes Go.WideShapes Go.ChangeAt
set_option maxHeartbeats 16000000
namespace UA
set_option maxHeartbeats 16000000
theorem jf {H:Type}(d:DataW H):1<=Rows.uptoBulk d:=by
 cases d with
 |lit l=>cases l<;>simp [Rows.uptoBulk]
 |nil=>simp [Rows.uptoBulk]
 |ptr d=>simp [Rows.uptoBulk]
 |slice elems spare=>simp [Rows.uptoBulk]
 |agg parts=>simp [Rows.uptoBulk]
 |iface t d=>simp [Rows.uptoBulk]
 |map entries=>simp [Rows.uptoBulk]
 |held h=>simp [Rows.uptoBulk]
theorem Vl {H:Type}(l:List (DataW H)):l.length<=Rows.uptoBulkAll l:=by
 induction l with
 |nil=>simp [Rows.uptoBulkAll]
 |cons x r ih=>have:=jf x;simp only [Rows.uptoBulkAll,xP];omega
theorem slice_le {H:Type}(a c:List (DataW H)):a.length+c.length+1<=Rows.uptoBulk (.slice a c):=by
 have h1:=Vl a;have h2:=Vl c;simp only [Rows.uptoBulk];omega
end UA
open Go Go.RowKit Go.Proofs.Tryz
open Go.ChangeShapes Go.WideShapes Go.ChangeAt Go.Deep
set_option maxHeartbeats 16000000
open Go Go.RowKit Go.Proofs.Tryz
open Go.ChangeShapes Go.WideShapes Go.ChangeAt Go.Deep
set_option maxHeartbeats 16000000
open Go Go.RowKit Go.Proofs.Tryz
open Go.ChangeShapes Go.WideShapes Go.ChangeAt Go.Deep
set_option maxHeartbeats 16000000
namespace UA
set_option maxHeartbeats 16000000
theorem mem_le {H:Type}{d:DataW H}{l:List (DataW H)}(h:d ∈ l):Rows.uptoBulk d<=Rows.uptoBulkAll l:=by
 induction l with
 |nil=>cases h
 |cons x r ih=>
   simp only [Rows.uptoBulkAll];rcases List.mem_cons.1 h with rfl|h
   ·omega
   ·have:=ih h;omega
end UA
open Go Go.RowKit Go.Proofs.Tryz
set_option maxHeartbeats 16000000
variable {t:Bool}{f:FuncId}{x y:Nat}{w w':World}
def zu (w:World):Prop:=∀j,j<Lib.deBruijn64tab.length->w.cell? ⟨0,j,none⟩=some (.int .u8 (Lib.deBruijn64tab.getD j 0:Nat))
theorem zu.below {B:Nat}(h:zu w)(hb:Below B w w')(hB:0<B):zu w':=λj hj=>(hb.cell (p:=⟨0,j,none⟩) hB).trans (h j hj)
theorem zu.drewN (h:zu w)(n:Nat):zu (w.drewN n):=h
theorem zu.on (h:zu w)(hb:Below w.heap.size w w'):zu w':=h.below hb (by
 have:=h 0 zg;exact xQ w _ this)
open Go Go.RowKit Go.Proofs.Tryz
set_option maxHeartbeats 16000000
theorem jq (x a:Nat)(hx:x<18446744073709551616)(hx0:x≠0)(c:x&&&(18446744073709551616 - x)=a):
  IntKind.u64.wrap (bits BinOp.and IntKind.u64 (x:Int) (IntKind.u64.wrap (-(x:Int)))*285870213051353865) / 288230376151711744=((a*285870213051353865%18446744073709551616 / 288230376151711744:Nat):Int):=by
 have e1:IntKind.u64.wrap (-(x:Int))=((18446744073709551616 - x:Nat):Int):=by rw [QA];omega
 rw [e1,bits_and_u64_nat x _ hx zb,c,QA];omega
theorem T3 (x k a:Nat)(w:World)(hx0:((x:Int)==0)=false)
  (c:IntKind.u64.wrap (bits BinOp.and IntKind.u64 (x:Int) (IntKind.u64.wrap (-(x:Int)))*285870213051353865) / 288230376151711744=(a:Int))
  (hi:a<64) (hk:k<64) (hcell:w.cell? ⟨0,a,none⟩=some (.int .u8 k)):
  Calls prog 199 #[.int .u64 x] w λe w'=>e=.returned (.int .i64 k)/\w=w':=by
 go_enter func199,ntmps199;go_wp2_with (simp only [c]);go_ret;exact⟨rfl,rfl⟩
theorem T4 (w:World):
  Calls prog 199 #[.int .u64 0] w λe w'=>e=.returned (.int .i64 64)/\w=w':=by
 go_enter func199,ntmps199;go_wp2;go_ret;exact⟨rfl,rfl⟩
theorem Tc (x:Int)(hx:Wd x)(w:World)(hT:zu w):
  Calls prog 199 #[.int .u64 x] w λe w'=>e=.returned (.int .i64 (jW x))/\w=w':=by
 obtain⟨h0,h1⟩:=hx;obtain⟨x,rfl⟩:=xU h0;have hN:x<18446744073709551616:=zb;unfold jW;rw [Int.toNat_natCast];by_cases hx0:x=0
 ·subst hx0;exact T4 w
 ·obtain⟨c,hk⟩:=Lib.lowest_bit 64 x hx0 hN;obtain⟨hi,d⟩:=Lib.deBruijn64_at _ hk;have a:=hT _ hi;rw [d] at a;exact T3 x _ _ w (by simp;omega) (jq x _ hN hx0 c) hi hk a
open Go Go.RowKit Go.Proofs.Tryz
set_option maxHeartbeats 16000000
theorem RW (x:Int)(hx:Wd x)(w:World)(hT:zu w):
  Calls prog 190 #[.int .u64 x] w λe w'=>e=.returned (.int .i64 (jW x))/\w=w':=by
 have H:=za (Tc x hx w hT);clear hT;go_enter func190,ntmps190;go_wp2_with (go_at_call 199;refine H.o.mono ?_;rintro e w' ⟨rfl,rfl⟩);go_ret;exact⟨rfl,rfl⟩
open Go Go.RowKit Go.Proofs.Tryz
set_option maxHeartbeats 16000000
set_option maxRecDepth 100000
theorem nV (x y:Nat)(A D:ze)(n m c d:Nat)(w:World)(hA:zn w x A n c)(hD:zn w y D m d)(hn:n<=549755813888)(hm:m<=549755813888):
  Calls prog 193 #[.agg #[.slice A n c],.agg #[.slice D m d]] w (xp w (x+y)):=by
 obtain⟨i0,ae,am,an,ao⟩:=info_parts ol;have aj:=za hA.len;have ai:=za hD.len;have HA:=zj w (λw' hb=>hA.below hb);have HD:=zj w (λw' hb=>hD.below hb);obtain⟨N,hN⟩:∃N,max n m=N:=⟨_,rfl⟩;have hN1:n<=N:=zb;have hN2:m<=N:=zb;have hN3:N<=549755813888:=zb;obtain⟨Z,hZ⟩:∃Z,madeCells (Value.cells (.int .u64 0)) ((N+1)*i0.size)=Z:=⟨_,rfl⟩;have HZ:zd (Z.size=N+1):=by show _=_;rw [<-hZ,size_madeCells,an,xC]
 have ak:∀W:World,(Instr.makeSlice 35 (.int .i64 ((N:Int)+1)) (.int .i64 ((N:Int)+1))).run prog W=.ok (.slice (some ⟨W.heap.size,0,none⟩) (N+1) (N+1)) (W.alloc (.cells Z 132)):=λW=>by
  rw [<-hZ];exact tH _ _ i0 _ underlying35 ae am _ _ (N+1) (N+1) (qY _) (by rw [ao];omega) zb W
 have al:IntKind.i64.wrap ((N:Int)+1)=(N:Int)+1:=QO _ zb;have O:(if (n:Int)<(m:Int) then(m:Int) else(n:Int))=(N:Int):=by split<;>omega
 have P:(if n<m then(m:Int) else(n:Int))=(N:Int):=by split<;>omega
 have Q:(if (m:Int)>(n:Int) then(m:Int) else(n:Int))=(N:Int):=by split<;>omega
 clear hZ hA hD hN;go_enter func193,ntmps193;go_wp2_with fail;generalize hW:((w.alloc (.cells #[.slice A n c] 37)).alloc (.cells #[.slice D m d] 37)).alloc (.cells #[.slice none 0 0] 37)=W0;obtain⟨b1,b2,b3,b4,b5⟩:=yn w 37 37 37 #[.slice A n c] #[.slice D m d] #[.slice none 0 0];rw [hW] at b1 b2 b3 b4 b5;have g1:W0.cell? ⟨w.heap.size,0,none⟩=some (.slice A n c):=b2.cell 0;have g2:W0.cell? ⟨w.heap.size+1,0,none⟩=some (.slice D m d):=b3.cell 0;clear hW b2 b3;have t:=b1.drew;have z:=b4.drew
 go_region_held3 (fun w' => Below w.heap.size w w' ∧ w'.cell? ⟨w.heap.size,0,none⟩ = some (.slice A n c) ∧ w'.cell? ⟨w.heap.size + 1,0,none⟩ = some (.slice D m d) ∧ zh w' (w.heap.size + 1 + 1) 37 #[.slice none 0 0])
  (first|(exact⟨t,g1,g2,z⟩)|(go_split_ands;(repeat' apply And.intro);all_goals (first|exact zk|exact zc zk hb|exact zt hb zk|exact zf hb zk|exact xk _ zk|exact xt _ zk|exact zh.alloc zk _|exact zz _ (by simp;omega) zk|exact zR _ (by simp;omega) zk|exact zh.far zk (by simp;omega) _)))
  (first
    |(go_at_call 102;refine(vN x _ _ _ _).mono ?_;rintro e w' ⟨rfl,hb⟩))
 rename_i w1 hb1 hH
 obtain⟨hB,g1,g2,hk⟩:=hH;have hgs:w.heap.size+3<=w'.heap.size:=by
  have h1:=hb1.size;have h2:=hb.size;have h3:W0.drew.heap.size=W0.heap.size:=rfl;omega
 have K:=zh.new w' 132 Z;generalize w'.alloc (.cells Z 132)=W1 at*;generalize w'.heap.size=gs at*;clear ak O P Q hb hb1 t z b1 b4 b5 al;go_wp2_with fail
 go_loopg [6,7,17] (N + 2) (fun g v _ i wr => ∃ (k cc : Nat) (cs : Array Value) (out : List Nat),k ≤ N + 1 ∧ N + 1 < g + k ∧ i = .int .i64 k ∧ v = .int .u64 cc ∧ vE x y k out cc ∧ cs.size = N + 1 ∧ cs.toList.take k = zq .u64 out ∧ zh wr gs 132 cs ∧
   Below w.heap.size w wr/\wr.cell? ⟨w.heap.size,0,none⟩=some (.slice A n c)/\wr.cell? ⟨w.heap.size+1,0,none⟩=some (.slice D m d)/\zh wr (w.heap.size+1+1) 37 #[.slice none 0 0])
 case atStart=>exact⟨0,0,Z,[],zb,zb,rfl,rfl,vE.start x y,HZ.o,rfl,K,hB,g1,g2,hk⟩
 case round=>
  clear hB g1 g2 hk K;obtain⟨k,cc,cs,out,hk,hg,rfl,rfl,j,hsz,F,C,hB,g1,g2,B⟩:=hrel;have M:=j.carry;by_cases hlt:k<N+1
  ·have E:=j.step (s:=wd x k+wd y k+cc) rfl;have aa:=wF x k;have ab:=wF y k;have WX:=zj w (λw' h=>ki x A n c k w' (HA.o w' h));have WY:=zj w (λw' h=>ki y D m d k w' (HD.o w' h));obtain⟨a,ha⟩:∃a,wd x k=a:=⟨_,rfl⟩;obtain⟨b,hb⟩:∃a,wd y k=a:=⟨_,rfl⟩;rw [ha] at WX aa E;rw [hb] at WY ab E;have WA:∀w',Calls prog 205 #[.int .u64 a,.int .u64 b,.int .u64 cc] w' λe U=>e=.returned (.tuple #[.int .u64 (((a+b+cc)%18446744073709551616:Nat):Int),.int .u64 (((a+b+cc) / 18446744073709551616:Nat):Int)])/\w'=U:=λw'=>by
    rw [<-We M,<-Wc M];exact Ud a b cc ⟨zb,zb⟩ ⟨zb,zb⟩ ⟨zb,zb⟩ w'
   have H:=za E;have I:=za hsz;have V:=za F;obtain⟨s1,e1⟩:∃s1,(a+b+cc)%18446744073709551616=s1:=⟨_,rfl⟩;obtain⟨s2,e2⟩:∃s2,(a+b+cc) / 18446744073709551616=s2:=⟨_,rfl⟩;rw [e1,e2] at WA H;have X:=za WA;obtain⟨u,hu⟩:∃u,cs[k]?=some u:=⟨cs[k]' zb,QZ zb⟩;have HU:=za hu;clear WA E ha hb e1 e2 j F hu hsz;have i1:(0:Int)<=(k:Int):=zb;have i2:(k:Int)<(N:Int)+1:=zb;go_wp2_with fail;have t:=hB.drew;have z:=B.drew;have ac:=C.drew
   go_region_held3 (λw'=>Below w.heap.size w w'/\w'.cell? ⟨w.heap.size,0,none⟩=some (.slice A n c)/\w'.cell? ⟨w.heap.size+1,0,none⟩=some (.slice D m d)/\zh w' (w.heap.size+1+1) 37 #[.slice none 0 0])
   (first | (exact ⟨t,g1,g2,z⟩) | (go_split_ands; (repeat' apply And.intro); all_goals (first | exact zk | exact zc zk hb | exact zt hb zk | exact zf hb zk | exact xk _ zk | exact xt _ zk | exact zh.alloc zk _ | exact zz _ (by simp; omega) zk | exact zR _ (by simp; omega) zk | exact zh.far zk (by simp; omega) _)))
     (first
       |(go_at_call 164;with_reducible refine(WX.o _ (by first|exact zk|exact XV zk)).mono ?_;rintro e w' ⟨rfl,hb⟩;have o:zh w' gs 132 cs:=zf hb zk;have q1:=(o.cell k).trans HU.o;have q2:=o.frozen k)
       |(go_at_call 164;with_reducible refine(WY.o _ (by first|exact zk|exact XV zk)).mono ?_;rintro e w' ⟨rfl,hb⟩;have o:zh w' gs 132 cs:=zf hb zk;have q1:=(o.cell k).trans HU.o;have q2:=o.frozen k)
       |(go_at_call 205;with_reducible refine(X.o _).mono ?_;rintro e U ⟨rfl,rfl⟩))
   rename_i hH
   obtain⟨Y,g3,g4,af⟩:=hH;have ag:=o.set_ k (.int .u64 s1);clear hb o q1 q2 t z ac hB g1 g2 B C;go_wp2;go_roundg (N+1 - k)
   case measure=>omega
   case rel=>exact⟨k+1,s2,_,_,zb,zb,by go_num,rfl,H.o,by simpa using I.o,by rw [Zl _ _ _ (by have:=I.o;omega),V.o,fa],ag,Y,g3,g4,af⟩
  ·have ah:k=N+1:=zb;subst ah;have e:=j.done (by have:=aj.o;omega) (by have:=ai.o;omega);have R:out.length=N+1:=j.len;have T:=fB (some ⟨gs,0,none⟩) (N+1) (N+1) wr.heap.size out wr (ju C hsz F R) j.dgs (qY _) zb zb;rw [e] at T;have HT:=za T;have ad:wr.cell? ⟨w.heap.size+1+1,0,none⟩=some (.slice none 0 0):=B.cell 0;have hf1:=B.frozen 0;clear T C hsz F j e R B g1 g2;go_wp2_with fail;refine HT.o.mono ?_;rintro e w2 ⟨A1,c1,rfl,S,h1,h2,J,rfl⟩;have G:=eJ hB (p:=w.heap.size+1+1) (gs:=gs) zb zb S h1 h2 J zb (.slice A1 (dg 18446744073709551616 (x+y)).length c1);have HG:zd (xp w (x+y) (.returned (.agg #[.slice A1 (dg 18446744073709551616 (x+y)).length c1])) (wr.setCell ⟨w.heap.size+1+1,0,none⟩ (.slice A1 (dg 18446744073709551616 (x+y)).length c1))):=⟨_,_,_,rfl,G.2.1,G.1,G.2.2⟩;clear G S h1 h2 J;obtain⟨L,hL⟩:∃L,(dg 18446744073709551616 (x+y)).length=L:=⟨_,rfl⟩;rw [hL] at HG⊢;clear hL;go_wp2;refine bodyPost_ret (v:=.agg #[.slice A1 L c1]) (by simp [results,results193,go_sem,ad]) rfl ?_;exact HG.o
open Go Go.RowKit Go.Proofs.Tryz
set_option maxHeartbeats 16000000
set_option maxRecDepth 100000
theorem Rm (x y:Nat)(A D:ze)(n m c d:Nat)(w:World)(hA:zn w x A n c)(hD:zn w y D m d)(hn:n<=549755813888)(hm:m<=549755813888)(a:x<y):
  Calls prog 194 #[.agg #[.slice A n c],.agg #[.slice D m d]] w (iL w 0 false):=by
 have CC:=zj w (λw' hb=>jM x y A D n m c d w' (hA.below hb) (hD.below hb) zb zb);rw [tn a] at CC;clear hA hD a;go_enter func194,ntmps194;go_wp2_with fail;generalize hW:((w.alloc (.cells #[.slice A n c] 37)).alloc (.cells #[.slice D m d] 37)).alloc (.cells #[.slice none 0 0] 37)=W0;obtain⟨b1,b2,b3,b4,b5⟩:=yn w 37 37 37 #[.slice A n c] #[.slice D m d] #[.slice none 0 0];rw [hW] at b1 b2 b3 b4 b5;clear hW b2 b3;refine(CC.o _ b1).mono ?_;rintro e w1 ⟨rfl,hb⟩;have hB:=zc b1 hb;have hk:=zf hb b4;have g:w1.cell? ⟨w.heap.size+1+1,0,none⟩=some (.slice none 0 0):=hk.cell 0;have hf1:=hk.frozen 0;have HG:zd (iL w 0 false (.returned (.tuple #[.agg #[.slice none 0 0],.bool false])) (w1.setCell ⟨w.heap.size+1+1,0,none⟩ (.slice none 0 0))):=⟨_,_,_,rfl,bI _,zz _ (by show _<=w.heap.size+1+1;omega) hB,tN.none_ _⟩;clear hB hk hb b1 b4;go_wp2;refine bodyPost_ret (v:=.tuple #[.agg #[.slice none 0 0],.bool false]) (by simp [results,results194,go_sem,g]) rfl ?_;exact HG.o
theorem UT (x y:Nat)(A D:ze)(n m c d:Nat)(w:World)(hA:zn w x A n c)(hD:zn w y D m d)(hn:n<=549755813888)(hm:m<=549755813888)(F:y<=x):
  Calls prog 194 #[.agg #[.slice A n c],.agg #[.slice D m d]] w (iL w (x - y) true):=by
 obtain⟨i0,ai,aq,ar,au⟩:=info_parts ol;have am:=za hA.len;have HA:=zj w (λw' hb=>hA.below hb);have HD:=zj w (λw' hb=>hD.below hb);have X:=za F;have E:=ZC F;have CC:=(λw' (hb:Below w.heap.size w w')=>jM x y A D n m c d w' (hA.below hb) (hD.below hb) zb zb);obtain⟨z,hz⟩:∃z,z7 x y=z:=⟨_,rfl⟩;rw [hz] at CC E;have HC:=za CC;have hzl:¬ z<0:=zb;have hzd:decide (z<0)=false:=by simpa using E
 obtain⟨Z,hZ⟩:∃Z,madeCells (Value.cells (.int .u64 0)) (n*i0.size)=Z:=⟨_,rfl⟩;have HZ:zd (Z.size=n):=by show _=_;rw [<-hZ,size_madeCells,ar,xC]
 have an:∀W:World,(Instr.makeSlice 35 (.int .i64 (n:Int)) (.int .i64 (n:Int))).run prog W=.ok (.slice (some ⟨W.heap.size,0,none⟩) n n) (W.alloc (.cells Z 132)):=λW=>by
  rw [<-hZ];exact tH _ _ i0 _ underlying35 ai aq _ _ n n (qY _) (by rw [au];omega) zb W
 clear hZ hA hD F CC hz;go_enter func194,ntmps194;go_wp2_with fail;generalize hW:((w.alloc (.cells #[.slice A n c] 37)).alloc (.cells #[.slice D m d] 37)).alloc (.cells #[.slice none 0 0] 37)=W0;obtain⟨b1,b2,b3,b4,b5⟩:=yn w 37 37 37 #[.slice A n c] #[.slice D m d] #[.slice none 0 0];rw [hW] at b1 b2 b3 b4 b5;have g1:W0.cell? ⟨w.heap.size,0,none⟩=some (.slice A n c):=b2.cell 0;have g2:W0.cell? ⟨w.heap.size+1,0,none⟩=some (.slice D m d):=b3.cell 0;clear hW b2 b3;refine(HC.o _ b1).mono ?_;rintro e w1 ⟨rfl,hb⟩;have hB:=zc b1 hb;have hk:=zf hb b4;have g3:=zt hb g1;have g4:=zt hb g2;have ao:=hb.size;clear hb g1 g2 b1 b4;go_wp2_with fail;refine(vN x _ _ _ _).mono ?_;rintro e w2 ⟨rfl,hb⟩;have hB:=zc hB hb;have hk:=zf hb hk;have g1:=zt hb g3;have g2:=zt hb g4;have ap:=hb.size;have hgs:w.heap.size+3<=w2.heap.size:=zb;clear hb g3 g4 ao ap b5;go_wp2_with fail;have K:=zh.new w2 132 Z;have hB:=xk (.cells Z 132) hB;have hk:=hk.alloc (.cells Z 132);have g1:=xt (.cells Z 132) g1;have g2:=xt (.cells Z 132) g2;generalize w2.alloc (.cells Z 132)=W1 at*;generalize w2.heap.size=gs at*;clear an
 go_loopg [7,8,19] (n + 1) (fun g v _ i wr => ∃ (k cc : Nat) (cs : Array Value) (out : List Nat),k ≤ n ∧ n < g + k ∧ i = .int .i64 k ∧ v = .int .u64 cc ∧ vH x y k out cc ∧ cs.size = n ∧ cs.toList.take k = zq .u64 out ∧ zh wr gs 132 cs ∧
   Below w.heap.size w wr/\wr.cell? ⟨w.heap.size,0,none⟩=some (.slice A n c)/\wr.cell? ⟨w.heap.size+1,0,none⟩=some (.slice D m d)/\zh wr (w.heap.size+1+1) 37 #[.slice none 0 0])
 case atStart=>exact⟨0,0,Z,[],zb,zb,rfl,rfl,vH.start x y,HZ.o,rfl,K,hB,g1,g2,hk⟩
 case round=>
  clear hB g1 g2 hk K;obtain⟨k,cc,cs,out,hk,hg,rfl,rfl,j,hsz,C,s,hB,g1,g2,o⟩:=hrel;have ah:=j.lack;by_cases hlt:k<n
  ·have B:=λd c'=>j.step (d:=d) (c':=c');have M:=wF x k;have N:=wF y k;have J:=(HA.o wr hB).1;obtain⟨ad,rfl,O,hx⟩:=wB J hlt;have hadw:ad.block<w.heap.size:=by
    obtain⟨ad',e,ae,_⟩:=(HA.o w (qZ _ _)).1.2 zb;cases e;exact ae
   rw [oH] at hx;have WY:=zj w (λw' h=>ki y D m d k w' (HD.o w' h));obtain⟨a,ha⟩:∃a,wd x k=a:=⟨_,rfl⟩;obtain⟨b,hb⟩:∃a,wd y k=a:=⟨_,rfl⟩;rw [ha] at hx M B;rw [hb] at WY N B;obtain⟨s1,s2,e1,e2,e3,e4,e5⟩:=Zv M N ah;have WA:∀w',Calls prog 206 #[.int .u64 a,.int .u64 b,.int .u64 cc] w' λe V=>e=.returned (.tuple #[.int .u64 (s1:Int),.int .u64 (s2:Int)])/\w'=V:=λw'=>by
    rw [<-e1,<-e2];exact Uu a b cc ⟨zb,zb⟩ ⟨zb,zb⟩ ⟨zb,zb⟩ w'
   have Y:=za (B s1 s2 e3 e4 e5);have H:=za hsz;have aa:=za C;have ab:=za WA;obtain⟨u,hu⟩:∃u,cs[k]?=some u:=⟨cs[k]' zb,QZ zb⟩;have HU:=za hu;clear WA B ha hb e1 e2 e3 e4 e5 j C hu hsz J O;have i1:(0:Int)<=(k:Int):=zb;have i2:(k:Int)<(n:Int):=zb;go_wp2_with fail;have P:=hB.drew;have Q:=o.drew;have af:=s.drew;have U:wr.drew.cell? (ad.add k)=some (.int .u64 a):=hx
   go_region_held3 (fun w' => Below w.heap.size w w' ∧ w'.cell? ⟨w.heap.size,0,none⟩ = some (.slice (some ad) n c) ∧ w'.cell? ⟨w.heap.size + 1,0,none⟩ = some (.slice D m d) ∧ zh w' (w.heap.size + 1 + 1) 37 #[.slice none 0 0] ∧ w'.cell? (ad.add k) = some (.int .u64 a))
    (first|(exact⟨P,g1,g2,Q,U⟩)|(go_split_ands;(repeat' apply And.intro);all_goals (first|exact zk|exact zc zk hb|exact zt hb zk|exact zf hb zk|exact xk _ zk|exact xt _ zk|exact zh.alloc zk _|exact zz _ (by simp;omega) zk|exact zR _ (by simp;omega) zk|exact zR _ (by rw [y8];simp;omega) zk|exact zh.far zk (by simp;omega) _)))
    (first
      |(go_at_call 164;with_reducible refine(WY.o _ (by first|exact zk|exact XV zk)).mono ?_;rintro e w' ⟨rfl,hb⟩;have t:zh w' gs 132 cs:=zf hb zk;have q1:=(t.cell k).trans HU.o;have q2:=t.frozen k)
      |(go_at_call 206;with_reducible refine(ab.o _).mono ?_;rintro e V ⟨rfl,rfl⟩))
   rename_i hH
   obtain⟨ac,g3,g4,aj,_⟩:=hH;have ak:=t.set_ k (.int .u64 s1);clear hb t q1 q2 P Q af hB g1 g2 o s hx U;go_wp2;go_roundg (n - k)
   case measure=>omega
   case rel=>exact⟨k+1,s2,_,_,zb,zb,by go_num,rfl,Y.o,by simpa using H.o,by rw [Zl _ _ _ (by have:=H.o;omega),aa.o,fa],ak,ac,g3,g4,aj⟩
  ·have al:k=n:=zb;subst al;have e:=j.done X.o (by have:=am.o;omega);have R:out.length=k:=j.len;have T:=fB (some ⟨gs,0,none⟩) k k wr.heap.size out wr (ju s hsz C R) j.dgs (qY _) zb zb;rw [e] at T;have HT:=za T;have ag:wr.cell? ⟨w.heap.size+1+1,0,none⟩=some (.slice none 0 0):=o.cell 0;have hf1:=o.frozen 0;clear T s hsz C j e R o g1 g2;go_wp2_with fail;refine HT.o.mono ?_;rintro e w2 ⟨A1,c1,rfl,S,h1,h2,I,rfl⟩;have G:=eJ hB (p:=w.heap.size+1+1) (gs:=gs) zb zb S h1 h2 I zb (.slice A1 (dg 18446744073709551616 (x - y)).length c1);have HG:zd (iL w (x - y) true (.returned (.tuple #[.agg #[.slice A1 (dg 18446744073709551616 (x - y)).length c1],.bool true])) (wr.setCell ⟨w.heap.size+1+1,0,none⟩ (.slice A1 (dg 18446744073709551616 (x - y)).length c1))):=⟨_,_,_,rfl,G.2.1,G.1,G.2.2⟩;clear G S h1 h2 I;obtain⟨L,hL⟩:∃L,(dg 18446744073709551616 (x - y)).length=L:=⟨_,rfl⟩;rw [hL] at HG⊢;clear hL;go_wp2;refine bodyPost_ret (v:=.tuple #[.agg #[.slice A1 L c1],.bool true]) (by simp [results,results194,go_sem,ag]) rfl ?_;exact HG.o
open Go Go.RowKit Go.Proofs.Tryz
set_option maxHeartbeats 16000000
def pX (w:World)(x:Nat)(e:Ending)(w':World):Prop:=∃(A:ze) (n c:Nat),e=.returned (.agg #[.slice A n c])/\zn w' x A n c/\Below w.heap.size w w'
def Zm (w:World)(x y:Nat)(e:Ending)(w':World):Prop:=∃(A:ze) (n c:Nat) (B:ze) (m d:Nat),e=.returned (.tuple #[.agg #[.slice A n c],.agg #[.slice B m d]])/\zn w' x A n c/\zn w' y B m d/\Below w.heap.size w w'
theorem Sz.gcd {K K':Nat}(h:Sz K x)(h':Sz K' y):Sz (K+K') (Nat.gcd x y):=by
 rcases QT x with e|e
 ·rw [e,XE];exact h'.up zb
 ·exact(h.of_le (Nat.gcd_le_left y e)).up zb
structure dO:Prop where
 of:∀(x y:Nat) (A D:ze) (n m c d:Nat) (w:World),zn w x A n c->zn w y D m d->n<=1073741824->m<=1073741824->zu w->Calls prog 162 #[.agg #[.slice A n c],.agg #[.slice D m d]] w (pX w (Nat.gcd x y))
 reduce:∀(x y:Nat) (A D:ze) (n m c d:Nat) (w:World),zn w x A n c->zn w y D m d->n<=1073741824->m<=1073741824->zu w->Calls prog 133 #[.agg #[.slice A n c],.agg #[.slice D m d]] w (Zm w (x / Nat.gcd x y) (y / Nat.gcd x y))
open Go Go.RowKit Go.Proofs.Tryz
set_option maxHeartbeats 16000000
theorem ui {P:Program}{args:Array Value}{z v:Int}(e:z=v)(h:Calls P f args w (wC w z)):Calls P f args w λe w'=>e=.returned (.int .i64 v)/\Below w.heap.size w w':=by
 subst e;exact h
theorem xo {P:Program}{args:Array Value}{b:Bool}(e:b=t)(h:Calls P f args w λe w'=>e=.returned (.bool b)/\Below w.heap.size w w'):Calls P f args w λe w'=>e=.returned (.bool t)/\Below w.heap.size w w':=by
 subst e;exact h
theorem rE {T:World->Prop}(IC:wQ T)(x:Nat)(A:ze)(n c:Nat)(w:World)(hT:T w)(h:zn w x A n c)(hn:n<=268435456):Calls prog 146 #[.bool false,.agg #[.slice A n c]] w (xF w (x:Int)):=
 IC.new false x A n c w hT h hn
open Go Go.RowKit Go.Proofs.Tryz
set_option maxHeartbeats 16000000
def tU (_:TypeId)(cs:Array Value):Prop:=yf cs
def FN (x:Nat)(v:Value)(w:World):Prop:=∃(B:ze) (m d:Nat),v=.agg #[.slice B m d]/\zn w x B m d
def wE (x y:Nat)(v:Value)(w:World):Prop:=∃(B:ze) (m d:Nat) (C:ze) (n e:Nat),v=.tuple #[.agg #[.slice B m d],.agg #[.slice C n e]]/\zn w x B m d/\zn w y C n e
def FI (z:Int)(v:Value)(w:World):Prop:=∃(b:Bool) (A:ze) (n c:Nat),v=.agg #[.bool b,.slice A n c]/\zZ w z b A n c
def FQ (r:Rat)(v:Value)(w:World):Prop:=∃(b:Bool) (A:ze) (n c:Nat) (E:ze) (k f:Nat),v=.agg #[.bool b,.slice A n c,.slice E k f]/\zo w r b A n c E k f
def oR (r:Rat)(t:Bool)(v:Value)(w:World):Prop:=∃(b:Bool) (A:ze) (n c:Nat) (E:ze) (k f:Nat),v=.tuple #[.agg #[.bool b,.slice A n c,.slice E k f],.bool t]/\zo w r b A n c E k f
def FV (u v:Value)(w:World):Prop:=v=u
instance {B:TypeId->Array Value->Prop}(u:Value):Kf B (FV u):=⟨λ_ _ _ _ h=>h,λ_ _ _ _ _ _ _ _ _ h=>h⟩
instance (x:Nat):Kf tU (FN x):=⟨λv w w' hb ⟨B,m,d,e,h⟩=>⟨B,m,d,e,h.below hb⟩,λv w w' g t cs hB hk hf ⟨B,m,d,e,h⟩=>⟨B,m,d,e,lZ h hk hB hf.1⟩⟩
instance (x y:Nat):Kf tU (wE x y):=⟨λv w w' hb ⟨B,m,d,C,n,f,e,h,h2⟩=>⟨B,m,d,C,n,f,e,h.below hb,h2.below hb⟩,λv w w' g t cs hB hk hf ⟨B,m,d,C,n,f,e,h,h2⟩=>⟨B,m,d,C,n,f,e,lZ h hk hB hf.1,lZ h2 hk hB hf.1⟩⟩
instance (z:Int):Kf tU (FI z):=⟨λv w w' hb ⟨b,A,n,c,e,h⟩=>⟨b,A,n,c,e,h.below hb⟩,λv w w' g t cs hB hk hf ⟨b,A,n,c,e,h⟩=>⟨b,A,n,c,e,ZI h hk hB hf.1⟩⟩
instance (r:Rat):Kf tU (FQ r):=⟨λv w w' hb ⟨b,A,n,c,E,k,f,e,h⟩=>⟨b,A,n,c,E,k,f,e,h.below hb⟩,λv w w' g t cs hB hk hf ⟨b,A,n,c,E,k,f,e,h⟩=>⟨b,A,n,c,E,k,f,e,iE h hk hB hf.1⟩⟩
instance (r:Rat)(u:Bool):Kf tU (oR r u):=⟨λv w w' hb ⟨b,A,n,c,E,k,f,e,h⟩=>⟨b,A,n,c,E,k,f,e,h.below hb⟩,λv w w' g t cs hB hk hf ⟨b,A,n,c,E,k,f,e,h⟩=>⟨b,A,n,c,E,k,f,e,iE h hk hB hf.1⟩⟩
theorem wE.l:∀v w,wE x y v w->∃vs u,v=.tuple vs/\vs[0]?=some u/\FN x u w:=λv w ⟨B,m,d,C,n,f,e,h,h2⟩=>⟨_,_,e,rfl,B,m,d,rfl,h⟩
theorem wE.r:∀v w,wE x y v w->∃vs u,v=.tuple vs/\vs[1]?=some u/\FN y u w:=λv w ⟨B,m,d,C,n,f,e,h,h2⟩=>⟨_,_,e,rfl,C,n,f,rfl,h2⟩
theorem oR.l {r:Rat}:∀v w,oR r t v w->∃vs u,v=.tuple vs/\vs[0]?=some u/\FQ r u w:=λv w ⟨b,A,n,c,E,k,f,e,h⟩=>⟨_,_,e,rfl,b,A,n,c,E,k,f,rfl,h⟩
theorem oR.r {r:Rat}:∀v w,oR r t v w->∃vs u,v=.tuple vs/\vs[1]?=some u/\FV (.bool t) u w:=λv w ⟨b,A,n,c,E,k,f,e,h⟩=>⟨_,_,e,rfl,rfl⟩
open Go Go.RowKit Go.Proofs.Tryz
set_option maxHeartbeats 16000000
section
variable {P:Program}{ops:Array Oper}{Q:Exit->Act->World->Prop}{S:World->Prop}{fuel:Nat}{l:Array Bool}{a:Act}{w:World}
theorem uM (i j:Nat){o p:Oper}(hk:∀K':Act->World->Prop,Shut (∀(a:Act) (w:World),S w->(S w->wpAnyH P .any ops (NoPanic Q) S fuel (l.setIfInBounds i true) a w)->K' a w)->Oper.wp P o a w K' (NoPanic Q))(hj:∀K':Act->World->Prop,Shut (∀(a:Act) (w:World),S w->(S w->wpAnyH P .any ops (NoPanic Q) S fuel (l.setIfInBounds j true) a w)->K' a w)->Oper.wp P p a w K' (NoPanic Q))(h1:ops[i]?=some o:=by simp only [qT,qA,qM];rfl)(c:ops[j]?=some p:=by simp only [qT,qA,qM];rfl)(h2:Region.ready .any ops l=[i,j]:=by kernel_rfl)(h3:Region.wanted o (yielded ops a.tmps)=true:=by rfl)(d:Region.wanted p (yielded ops a.tmps)=true:=by rfl):wpAnyH P .any ops (NoPanic Q) S (fuel+1) l a w:=
 wpAnyH_ready h2 zE (AllReadyH.cons h1 (λK' hK=>by rw [if_pos h3];exact hk K' hK) (AllReadyH.cons c (λK' hK=>by rw [if_pos d];exact hj K' hK) AllReadyH.nil))
end
