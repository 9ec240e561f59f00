/- What this claim leans on. -/
import Derived.Test.YtkcjgcflloldoaaGreatDoorPD8Form
set_option linter.unusedVariables false
set_option linter.unusedSimpArgs false
namespace Go.Proofs.YtkcjgcflloldoaaGreatDoor
open Go Go.RowKit Go.Proofs.Tryz
set_option maxHeartbeats 16000000
set_option maxRecDepth 100000
variable {b p:Bool}{z:Int}{c g n s x:Nat}{t:TypeId}{w:World}{A:ze}
def yu (w:World)(z:Int)(b:Bool)(A:ze)(n c:Nat):Prop:=b=decide (z<0)/\zE w z.natAbs A n c
theorem yu.below {w':World}(h:yu w z b A n c)(hb:Below w.heap.size w w'):yu w' z b A n c:=⟨h.1,h.2.below hb⟩
theorem yu.holds (h:yu w z b A n c):zE w z.natAbs A n c:=h.2
theorem yu.to {z':Int}(e:z=z')(h:yu w z b A n c):yu w z' b A n c:=e▸h
def wJ (w:World)(z:Int)(e:Ending)(w':World):Prop:=∃(b:Bool) (A:ze) (n c:Nat),e=.returned (.agg #[.bool b,.slice A n c])/\yu w' z b A n c/\Below w.heap.size w w'
theorem Ut {k:IntKind}{l:List Nat}{cs:Array Value}(h:zL w w.heap.size 1 A n (zt k l))(hk:zh w g t cs)(a:∀v ∈ cs.toList,∀z,v≠.int k z):0<n->∀ad,A=some ad->ad.block≠g:=λhn ad e hg=>by
 have hl:=h.len_;obtain⟨ad',e',_,hc⟩:=h.2 hn;rw [e] at e';injection e' with e';subst e';have h0:=hc 0 (.int k (l.getD 0 0:Nat)) (kj k _ 0 za);have e0:ad.add 0=ad:=by unfold Addr.add;rw [if_pos rfl]
 rw [e0] at h0;obtain⟨bk,off,pr⟩:=ad;simp only at hg;subst hg;unfold zh at hk;cases pr with
 |none=>
   rw [show w.cell? ⟨bk,off,none⟩=cs[off]? from cell_of_row w bk off _ t (0,0) hk,<-QR] at h0;exact a _ (QY h0) _ rfl
 |some q=>simp [World.cell?,hk] at h0
theorem VM (h:zE w x A n c){p:Addr}(hp:0<n->∀ad,A=some ad->ad.block≠p.block)(u:Value):zE (w.setCell p u) x A n c:=by
 obtain⟨hr,h1,h2⟩:=h;refine⟨⟨hr.1,λhn=>?_⟩,h1,h2⟩;obtain⟨ad,e,hb,hc⟩:=hr.2 hn;refine⟨ad,e,by simpa using hb,λj v hv=>?_⟩;refine(yY w p _ u (λe2=>hp hn ad e ?_)).trans (hc j v hv);have:=congrArg Addr.block e2;rw [yw] at this
 first|exact this|exact this.symm
theorem Yi {q:ze}{r:Nat}(h:zE w x A n c)(hk:zh w g t #[.bool p,.slice q r s])(p':Bool)(q':ze)(r' s':Nat):
  zE ((w.setCell ⟨g,0,none⟩ (.bool p')).setCell ⟨g,1,none⟩ (.slice q' r' s')) x A n c:=by
 have h1:=VM (p:=⟨g,0,none⟩) h (Ut h.1 hk (by intro v hv;simp at hv;rcases hv with rfl|rfl<;>intro z e<;>cases e)) (.bool p');exact VM (p:=⟨g,1,none⟩) h1 (Ut h1.1 (hk.set_ 0 (.bool p')) (by intro v hv;simp at hv;rcases hv with rfl|rfl<;>intro z e<;>cases e)) _
theorem oR {q:ze}{r:Nat}(h:yu w z b A n c)(hk:zh w g t #[.bool p,.slice q r s])(p':Bool)(q':ze)(r' s':Nat):
  yu ((w.setCell ⟨g,0,none⟩ (.bool p')).setCell ⟨g,1,none⟩ (.slice q' r' s')) z b A n c:=⟨h.1,Yi h.2 hk p' q' r' s'⟩
def xk (s:Bool)(x:Nat):Int:=if s then -(x:Int) else(x:Int)
theorem cV (s:Bool)(x:Nat):(xk s x).natAbs=x:=by unfold xk;split<;>omega
theorem lC (s:Bool)(x:Nat):decide (xk s x<0)=(s&&decide (0<x)):=by unfold xk;cases s<;>simp
theorem pj (h:zE w x A n c):decide (0<n)=decide (0<x):=by
 rw [h.len];by_cases hx:x=0
 ·subst hx;rfl
 ·have:=(jA (b:=65536) zf x hx).1;rw [decide_eq_true (by omega:0<x),decide_eq_true za]
def Xk (w:World)(z:Int)(A:ze)(n c:Nat)(e:Ending)(w':World):Prop:=∃b:Bool,e=.returned (.agg #[.bool b,.slice A n c])/\yu w' z b A n c/\Below w.heap.size w w'
theorem iJ (s:Bool)(x:Nat)(A:ze)(n c:Nat)(w:World)(h:zE w x A n c)(hn:n<=1099511627776):
  Calls prog 90 #[.bool s,.slice A n c] w (Xk w (xk s x) A n c):=by
 obtain⟨hB,b2,b5⟩:=zw w 41 #[.bool false,.slice none 0 0];have hh:=h.below hB;have i:=lC s x;rw [<-pj h] at i;have g:=zb i;have j:=zb (cV s x);clear h i;cases s
 ·go_enter func90,ntmps90;generalize hW:w.alloc (.cells #[.bool false,.slice none 0 0] 41)=W0 at*;have a:=(b2.set_ 0 (.bool false)).set_ 1 (.slice A n c);have r0:=a.cell 0;have r1:=a.cell 1;have c0:=b2.cell 0;have f0:=b2.frozen 0;have c1:(W0.setCell ⟨w.heap.size,0,none⟩ (.bool false)).cell? ⟨w.heap.size,1,none⟩=some (.slice none 0 0):=(b2.set_ 0 (.bool false)).cell 1;have f1:=(b2.set_ 0 (.bool false)).frozen 1;have HG : zd (Xk w (xk false x) A n c (.returned (.agg #[.bool false,.slice A n c])) ((W0.setCell ⟨w.heap.size,0,none⟩ (.bool false)).setCell ⟨w.heap.size,1,none⟩ (.slice A n c))) :=
   ⟨false,rfl,⟨by rw [g.o];rfl,by rw [j.o];exact Yi hh b2 _ _ _ _⟩,zB _ (qX _) (zB _ (qX _) hB)⟩
  clear a b2 hh hB;go_wp2;refine bodyPost_ret (v:=.agg #[.bool false,.slice A n c]) (by simp [results,results90,go_sem,r0,r1]) rfl ?_;exact HG.o
 ·have hd:decide ((0:Int)<(n:Int))=decide (0<n):=by by_cases h:0<n<;>simp [h]
  obtain⟨d,k⟩:∃d,decide (0<n)=d:=⟨_,rfl⟩;rw [k] at hd g;have hd3:decide ((n:Int)>0)=d:=hd;go_enter func90,ntmps90;generalize hW:w.alloc (.cells #[.bool false,.slice none 0 0] 41)=W0 at*;have a:=(b2.set_ 0 (.bool d)).set_ 1 (.slice A n c);have r0:=a.cell 0;have r1:=a.cell 1;have c0:=b2.cell 0;have f0:=b2.frozen 0;have c1:(W0.setCell ⟨w.heap.size,0,none⟩ (.bool d)).cell? ⟨w.heap.size,1,none⟩=some (.slice none 0 0):=(b2.set_ 0 (.bool d)).cell 1;have f1:=(b2.set_ 0 (.bool d)).frozen 1;have HG : zd (Xk w (xk true x) A n c (.returned (.agg #[.bool d,.slice A n c])) ((W0.setCell ⟨w.heap.size,0,none⟩ (.bool d)).setCell ⟨w.heap.size,1,none⟩ (.slice A n c))) :=
   ⟨d,rfl,⟨by rw [g.o];rfl,by rw [j.o];exact Yi hh b2 _ _ _ _⟩,zB _ (qX _) (zB _ (qX _) hB)⟩
  clear a b2 hh hB;go_wp2;refine bodyPost_ret (v:=.agg #[.bool d,.slice A n c]) (by simp [results,results90,go_sem,r0,r1]) rfl ?_;exact HG.o
theorem sX (s:Bool)(x:Nat)(A:ze)(n c:Nat)(w:World)(h:zE w x A n c)(hn:n<=1099511627776):
  Calls prog 90 #[.bool s,.slice A n c] w (wJ w (xk s x)):=
 (iJ s x A n c w h hn).mono λ_ _ ⟨b,e,h1,h2⟩=>⟨b,A,n,c,e,h1,h2⟩
theorem SO (n m:Nat):65536^n+65536^m<=65536^(n+m+1):=by
 have h1:65536^n<=65536^(n+m):=qG zf za;have h2:65536^m<=65536^(n+m):=qG zf za;rw [qO];omega
theorem p9 (x:Int)(b:Bool)(A:ze)(n c:Nat)(w:World)(hA:yu w x b A n c)(hn:n<=1099511627776):
  Calls prog 98 #[.agg #[.bool b,.slice A n c]] w (wJ w (-x)):=by
 obtain⟨hB,x1,hk,x5⟩:=z8 w 41 41 #[.bool b,.slice A n c] #[.bool false,.slice none 0 0];have hz: -x=xk (!b) x.natAbs:=by
  rw [hA.1];unfold xk;by_cases h:x<0
  ·simp [h];omega
  ·simp [h];omega
 have HZ:=zb hz;have g:=zj w (λw' h=>sX (!b) x.natAbs A n c w' (hA.2.below h) hn);obtain⟨nb,s⟩:∃q,(!b)=q:=⟨_,rfl⟩;rw [s] at HZ g;clear hA hz;go_enter func98,ntmps98;go_wp2_with fail;generalize (w.alloc (.cells #[.bool b,.slice A n c] 41)).alloc (.cells #[.bool false,.slice none 0 0] 41)=W0 at*;have g1:W0.cell? ⟨w.heap.size,0,none⟩=some (.bool b):=x1.cell 0;have e1:W0.cell? ⟨w.heap.size,1,none⟩=some (.slice A n c):=x1.cell 1;clear x1 x5;go_wp2_with fail;refine(g.o _ hB).mono ?_;rintro e w3 ⟨b3,A3,n3,c3,rfl,k,hb⟩;have a:=zg hb hk;have c0:=a.cell 0;have f0:=a.frozen 0;have c1:(w3.setCell ⟨w.heap.size+1,0,none⟩ (.bool b3)).cell? ⟨w.heap.size+1,1,none⟩=some (.slice none 0 0):=(a.set_ 0 (.bool b3)).cell 1;have f1:=(a.set_ 0 (.bool b3)).frozen 1;have i:=zc hB hb;have o:=hB;have d:=(a.set_ 0 (.bool b3)).set_ 1 (.slice A3 n3 c3);have r0:=d.cell 0;have r1:=d.cell 1;have m:=oR k a b3 A3 n3 c3;have j:=zB (p:=⟨w.heap.size+1,1,none⟩) (.slice A3 n3 c3) zA (zB (p:=⟨w.heap.size+1,0,none⟩) (.bool b3) zA i);have HG:zd (wJ w (-x) (.returned (.agg #[.bool b3,.slice A3 n3 c3])) ((w3.setCell ⟨w.heap.size+1,0,none⟩ (.bool b3)).setCell ⟨w.heap.size+1,1,none⟩ (.slice A3 n3 c3))):=by
  show wJ _ _ _ _;rw [HZ.o];exact⟨b3,A3,n3,c3,rfl,m,j⟩
 clear d m j i k  o hb;go_wp2;refine bodyPost_ret (v:=.agg #[.bool b3,.slice A3 n3 c3]) (by simp [results,results98,go_sem,r0,r1]) rfl ?_;exact HG.o
theorem p8 (x y:Int)(b b':Bool)(A D:ze)(n m c d:Nat)(w:World)(hA:yu w x b A n c)(hD:yu w y b' D m d)(hn:n<=4294967296)(hm:m<=4294967296):
  Calls prog 99 #[.agg #[.bool b,.slice A n c],.agg #[.bool b',.slice D m d]] w (wJ w (x+y)):=by
 obtain⟨hB,x1,x2,hk,x5⟩:=yF w 41 41 41 #[.bool b,.slice A n c] #[.bool b',.slice D m d] #[.bool false,.slice none 0 0];have K:=zj w (λw' h=>hA.2.below h);have L:=zj w (λw' h=>hD.2.below h);have H:=hA.1;have I:=hD.1;have Q:=hA.2.len;have P:=hD.2.len;obtain⟨X,hX⟩:∃q,x.natAbs=q:=⟨_,rfl⟩;obtain⟨Y,hY⟩:∃q,y.natAbs=q:=⟨_,rfl⟩;rw [hX] at K Q;rw [hY] at L P;have N:zd (X<65536^n):=by show _<_;rw [Q];exact yv zf X
 have O:zd (Y<65536^m):=by show _<_;rw [P];exact yv zf Y
 clear hA hD Q P;have R:=zb (Xq X Y);have J:=zj w (λw' h=>cM X Y A D n m c d w' (K.o w' h) (L.o w' h) za za);cases b<;>cases b'
 ·have h1:0<=x:=by simpa using H
  have h2:0<=y:=by simpa using I
  have C:zd (∀q,q=(dg 65536 (X+Y)).length->q<=1099511627776):=λq hq=>by
   rw [hq];refine qD (wP zf _ (n+m+1) ?_) za;exact qJ (Nat.add_lt_add N.o O.o) (SO _ _)
  have B:=zb (λw' A n c (h:zE w' (X+Y) A n c) hl=>sX false (X+Y) A n c w' h hl);have HZ:zd (x+y=xk false (X+Y)):=by show _=_;unfold xk;simp only [Bool.false_eq_true,if_true,if_false];omega
  have z:=zj w (λw' h=>R.o A D n m c d w' (K.o w' h) (L.o w' h) za za);clear H I h1 h2 hX hY;go_enter func99,ntmps99;go_wp2_with fail;generalize ((w.alloc (.cells #[.bool false,.slice A n c] 41)).alloc (.cells #[.bool false,.slice D m d] 41)).alloc (.cells #[.bool false,.slice none 0 0] 41)=W0 at*;have g1:W0.cell? ⟨w.heap.size,0,none⟩=some (.bool false):=x1.cell 0;have e1:W0.cell? ⟨w.heap.size,1,none⟩=some (.slice A n c):=x1.cell 1;have g2:W0.cell? ⟨w.heap.size+1,0,none⟩=some (.bool false):=x2.cell 0;have e2:W0.cell? ⟨w.heap.size+1,1,none⟩=some (.slice D m d):=x2.cell 1;clear x1 x2 x5;have j0:W0.drew.cell? ⟨w.heap.size,0,none⟩=some (.bool false):=g1;have j1:W0.drew.cell? ⟨w.heap.size,1,none⟩=some (.slice A n c):=e1;have j2:W0.drew.cell? ⟨w.heap.size+1,1,none⟩=some (.slice D m d):=e2;have i:=hB.drew;have E:=hk.drew
  go_region_held3 (fun w' => Below w.heap.size w w' ∧ w'.cell? ⟨w.heap.size,0,none⟩ = some (.bool false) ∧ w'.cell? ⟨w.heap.size,1,none⟩ = some (.slice A n c) ∧ w'.cell? ⟨w.heap.size + 1,1,none⟩ = some (.slice D m d))
   (first|(exact⟨i,j0,j1,j2⟩)|(go_split_ands;(repeat' apply And.intro);all_goals (first|exact zl|exact zc zl hb|exact zq hb zl|exact zB _ zA (zB _ zA zl)|exact zW _ zA (zW _ zA zl))))
   (first
     |(go_at_call 133;(with_reducible refine(z.o _ (by first|exact zl|exact XO zl)).mono ?_);intro e w2 hg;obtain⟨A2,n2,c2,rfl,s,hb⟩:=hg.elim;have F:=zg hb E;have G:=C.o n2 s.len)
     |(go_at_call 90;(with_reducible refine(B.out _ _ _ _ s G).mono ?_);rintro e w3 ⟨b3,A3,n3,c3,rfl,t,hb⟩;go_split_ands;have a:=zg hb F;have c0:=a.cell 0;have f0:=a.frozen 0;have c1:(w3.setCell ⟨w.heap.size+1+1,0,none⟩ (.bool b3)).cell? ⟨w.heap.size+1+1,1,none⟩=some (.slice none 0 0):=(a.set_ 0 (.bool b3)).cell 1;have f1:=(a.set_ 0 (.bool b3)).frozen 1;have j:Below w.heap.size w w3:=zc zl hb))
  have g:=(a.set_ 0 (.bool b3)).set_ 1 (.slice A3 n3 c3);have r0:=g.cell 0;have r1:=g.cell 1;have u:=oR t a b3 A3 n3 c3;have k:=zB (p:=⟨w.heap.size+1+1,1,none⟩) (.slice A3 n3 c3) zA (zB (p:=⟨w.heap.size+1+1,0,none⟩) (.bool b3) zA j);have HG:zd (wJ w (x+y) (.returned (.agg #[.bool b3,.slice A3 n3 c3])) ((w3.setCell ⟨w.heap.size+1+1,0,none⟩ (.bool b3)).setCell ⟨w.heap.size+1+1,1,none⟩ (.slice A3 n3 c3))):=by
   show wJ _ _ _ _;rw [HZ.o];exact⟨b3,A3,n3,c3,rfl,u,k⟩
  clear g u k j t c0 c1 f0 f1 i hb;go_wp2;refine bodyPost_ret (v:=.agg #[.bool b3,.slice A3 n3 c3]) (by simp [results,results99,go_sem,r0,r1]) rfl ?_;exact HG.o
 ·have h1:0<=x:=by simpa using H
  have h2:y<0:=by simpa using I
  by_cases hle:Y<=X
  ·have M:0<=yg X Y:=Wj hle;have C:zd (∀q,q=(dg 65536 (X - Y)).length->q<=1099511627776):=λq hq=>by
    rw [hq];refine qD (wP zf _ (n+m+1) ?_) za;exact QO (Nat.sub_le _ _) (qJ N.o (qG zf za))
   have B:=zb (λw' A n c (h:zE w' (X - Y) A n c) hl=>sX false (X - Y) A n c w' h hl);have HZ:zd (x+y=xk false (X - Y)):=by show _=_;unfold xk;simp only [Bool.false_eq_true,if_true,if_false];omega
   have z:=zj w (λw' h=>ki X Y hle A D n m c d w' (K.o w' h) (L.o w' h) za za);obtain⟨cm,o⟩:∃q,yg X Y=q:=⟨_,rfl⟩;rw [o] at M J;have kc:decide (0<=cm)=true:=by simp;omega
   clear H I h1 h2 hX hY hle o;go_enter func99,ntmps99;go_wp2_with fail;generalize ((w.alloc (.cells #[.bool false,.slice A n c] 41)).alloc (.cells #[.bool true,.slice D m d] 41)).alloc (.cells #[.bool false,.slice none 0 0] 41)=W0 at*;have g1:W0.cell? ⟨w.heap.size,0,none⟩=some (.bool false):=x1.cell 0;have e1:W0.cell? ⟨w.heap.size,1,none⟩=some (.slice A n c):=x1.cell 1;have g2:W0.cell? ⟨w.heap.size+1,0,none⟩=some (.bool true):=x2.cell 0;have e2:W0.cell? ⟨w.heap.size+1,1,none⟩=some (.slice D m d):=x2.cell 1;clear x1 x2 x5;refine(J.o _ hB).mono ?_;rintro e w1 ⟨rfl,qd,rfl⟩;have hB:=uY hB qd;have hk:=hk.drewN qd;have g1:(W0.drewN qd).cell? ⟨w.heap.size,0,none⟩=some (.bool false):=g1;have e1:(W0.drewN qd).cell? ⟨w.heap.size,1,none⟩=some (.slice A n c):=e1;have g2:(W0.drewN qd).cell? ⟨w.heap.size+1,0,none⟩=some (.bool true):=g2;have e2:(W0.drewN qd).cell? ⟨w.heap.size+1,1,none⟩=some (.slice D m d):=e2;go_wp2_with fail;generalize W0.drewN qd=W0 at*;have j0:W0.drew.cell? ⟨w.heap.size,0,none⟩=some (.bool false):=g1;have j1:W0.drew.cell? ⟨w.heap.size,1,none⟩=some (.slice A n c):=e1;have j2:W0.drew.cell? ⟨w.heap.size+1,1,none⟩=some (.slice D m d):=e2;have i:=hB.drew;have E:=hk.drew
   go_region_held3 (fun w' => Below w.heap.size w w' ∧ w'.cell? ⟨w.heap.size,0,none⟩ = some (.bool false) ∧ w'.cell? ⟨w.heap.size,1,none⟩ = some (.slice A n c) ∧ w'.cell? ⟨w.heap.size + 1,1,none⟩ = some (.slice D m d))
    (first|(exact⟨i,j0,j1,j2⟩)|(go_split_ands;(repeat' apply And.intro);all_goals (first|exact zl|exact zc zl hb|exact zq hb zl|exact zB _ zA (zB _ zA zl)|exact zW _ zA (zW _ zA zl))))
    (first
      |(go_at_call 137;(with_reducible refine(z.o _ (by first|exact zl|exact XO zl)).mono ?_);intro e w2 hg;obtain⟨A2,n2,c2,rfl,s,hb⟩:=hg.elim;have F:=zg hb E;have G:=C.o n2 s.len)
      |(go_at_call 90;(with_reducible refine(B.out _ _ _ _ s G).mono ?_);rintro e w3 ⟨b3,A3,n3,c3,rfl,t,hb⟩;go_split_ands;have a:=zg hb F;have c0:=a.cell 0;have f0:=a.frozen 0;have c1:(w3.setCell ⟨w.heap.size+1+1,0,none⟩ (.bool b3)).cell? ⟨w.heap.size+1+1,1,none⟩=some (.slice none 0 0):=(a.set_ 0 (.bool b3)).cell 1;have f1:=(a.set_ 0 (.bool b3)).frozen 1;have j:Below w.heap.size w w3:=zc zl hb))
   have g:=(a.set_ 0 (.bool b3)).set_ 1 (.slice A3 n3 c3);have r0:=g.cell 0;have r1:=g.cell 1;have u:=oR t a b3 A3 n3 c3;have k:=zB (p:=⟨w.heap.size+1+1,1,none⟩) (.slice A3 n3 c3) zA (zB (p:=⟨w.heap.size+1+1,0,none⟩) (.bool b3) zA j);have HG:zd (wJ w (x+y) (.returned (.agg #[.bool b3,.slice A3 n3 c3])) ((w3.setCell ⟨w.heap.size+1+1,0,none⟩ (.bool b3)).setCell ⟨w.heap.size+1+1,1,none⟩ (.slice A3 n3 c3))):=by
    show wJ _ _ _ _;rw [HZ.o];exact⟨b3,A3,n3,c3,rfl,u,k⟩
   clear g u k j t c0 c1 f0 f1 i hb;go_wp2;refine bodyPost_ret (v:=.agg #[.bool b3,.slice A3 n3 c3]) (by simp [results,results99,go_sem,r0,r1]) rfl ?_;exact HG.o
  ·have M:yg X Y<0:=by rw [sh za];decide
   have C:zd (∀q,q=(dg 65536 (Y - X)).length->q<=1099511627776):=λq hq=>by
    rw [hq];refine qD (wP zf _ (n+m+1) ?_) za;exact QO (Nat.sub_le _ _) (qJ O.o (qG zf za))
   have B:=zb (λw' A n c (h:zE w' (Y - X) A n c) hl=>sX true (Y - X) A n c w' h hl);have HZ:zd (x+y=xk true (Y - X)):=by show _=_;unfold xk;simp only [Bool.false_eq_true,if_true,if_false];omega
   have z:=zj w (λw' h=>ki Y X za D A m n d c w' (L.o w' h) (K.o w' h) za za);obtain⟨cm,o⟩:∃q,yg X Y=q:=⟨_,rfl⟩;rw [o] at M J;have kc:decide (0<=cm)=false:=by simp;omega
   clear H I h1 h2 hX hY hle o;go_enter func99,ntmps99;go_wp2_with fail;generalize ((w.alloc (.cells #[.bool false,.slice A n c] 41)).alloc (.cells #[.bool true,.slice D m d] 41)).alloc (.cells #[.bool false,.slice none 0 0] 41)=W0 at*;have g1:W0.cell? ⟨w.heap.size,0,none⟩=some (.bool false):=x1.cell 0;have e1:W0.cell? ⟨w.heap.size,1,none⟩=some (.slice A n c):=x1.cell 1;have g2:W0.cell? ⟨w.heap.size+1,0,none⟩=some (.bool true):=x2.cell 0;have e2:W0.cell? ⟨w.heap.size+1,1,none⟩=some (.slice D m d):=x2.cell 1;clear x1 x2 x5;refine(J.o _ hB).mono ?_;rintro e w1 ⟨rfl,qd,rfl⟩;have hB:=uY hB qd;have hk:=hk.drewN qd;have g1:(W0.drewN qd).cell? ⟨w.heap.size,0,none⟩=some (.bool false):=g1;have e1:(W0.drewN qd).cell? ⟨w.heap.size,1,none⟩=some (.slice A n c):=e1;have g2:(W0.drewN qd).cell? ⟨w.heap.size+1,0,none⟩=some (.bool true):=g2;have e2:(W0.drewN qd).cell? ⟨w.heap.size+1,1,none⟩=some (.slice D m d):=e2;go_wp2_with fail;generalize W0.drewN qd=W0 at*;have j0:W0.drew.cell? ⟨w.heap.size+1,0,none⟩=some (.bool true):=g2;have j1:W0.drew.cell? ⟨w.heap.size+1,1,none⟩=some (.slice D m d):=e2;have j2:W0.drew.cell? ⟨w.heap.size,1,none⟩=some (.slice A n c):=e1;have i:=hB.drew;have E:=hk.drew
   go_region_held3 (fun w' => Below w.heap.size w w' ∧ w'.cell? ⟨w.heap.size + 1,0,none⟩ = some (.bool true) ∧ w'.cell? ⟨w.heap.size + 1,1,none⟩ = some (.slice D m d) ∧ w'.cell? ⟨w.heap.size,1,none⟩ = some (.slice A n c))
    (first|(exact⟨i,j0,j1,j2⟩)|(go_split_ands;(repeat' apply And.intro);all_goals (first|exact zl|exact zc zl hb|exact zq hb zl|exact zB _ zA (zB _ zA zl)|exact zW _ zA (zW _ zA zl))))
    (first
      |(go_at_call 137;(with_reducible refine(z.o _ (by first|exact zl|exact XO zl)).mono ?_);intro e w2 hg;obtain⟨A2,n2,c2,rfl,s,hb⟩:=hg.elim;have F:=zg hb E;have G:=C.o n2 s.len)
      |(go_at_call 90;(with_reducible refine(B.out _ _ _ _ s G).mono ?_);rintro e w3 ⟨b3,A3,n3,c3,rfl,t,hb⟩;go_split_ands;have a:=zg hb F;have c0:=a.cell 0;have f0:=a.frozen 0;have c1:(w3.setCell ⟨w.heap.size+1+1,0,none⟩ (.bool b3)).cell? ⟨w.heap.size+1+1,1,none⟩=some (.slice none 0 0):=(a.set_ 0 (.bool b3)).cell 1;have f1:=(a.set_ 0 (.bool b3)).frozen 1;have j:Below w.heap.size w w3:=zc zl hb))
   have g:=(a.set_ 0 (.bool b3)).set_ 1 (.slice A3 n3 c3);have r0:=g.cell 0;have r1:=g.cell 1;have u:=oR t a b3 A3 n3 c3;have k:=zB (p:=⟨w.heap.size+1+1,1,none⟩) (.slice A3 n3 c3) zA (zB (p:=⟨w.heap.size+1+1,0,none⟩) (.bool b3) zA j);have HG:zd (wJ w (x+y) (.returned (.agg #[.bool b3,.slice A3 n3 c3])) ((w3.setCell ⟨w.heap.size+1+1,0,none⟩ (.bool b3)).setCell ⟨w.heap.size+1+1,1,none⟩ (.slice A3 n3 c3))):=by
    show wJ _ _ _ _;rw [HZ.o];exact⟨b3,A3,n3,c3,rfl,u,k⟩
   clear g u k j t c0 c1 f0 f1 i hb;go_wp2;refine bodyPost_ret (v:=.agg #[.bool b3,.slice A3 n3 c3]) (by simp [results,results99,go_sem,r0,r1]) rfl ?_;exact HG.o
 ·have h1:x<0:=by simpa using H
  have h2:0<=y:=by simpa using I
  by_cases hle:Y<=X
  ·have M:0<=yg X Y:=Wj hle;have C:zd (∀q,q=(dg 65536 (X - Y)).length->q<=1099511627776):=λq hq=>by
    rw [hq];refine qD (wP zf _ (n+m+1) ?_) za;exact QO (Nat.sub_le _ _) (qJ N.o (qG zf za))
   have B:=zb (λw' A n c (h:zE w' (X - Y) A n c) hl=>sX true (X - Y) A n c w' h hl);have HZ:zd (x+y=xk true (X - Y)):=by show _=_;unfold xk;simp only [Bool.false_eq_true,if_true,if_false];omega
   have z:=zj w (λw' h=>ki X Y hle A D n m c d w' (K.o w' h) (L.o w' h) za za);obtain⟨cm,o⟩:∃q,yg X Y=q:=⟨_,rfl⟩;rw [o] at M J;have kc:decide (0<=cm)=true:=by simp;omega
   clear H I h1 h2 hX hY hle o;go_enter func99,ntmps99;go_wp2_with fail;generalize ((w.alloc (.cells #[.bool true,.slice A n c] 41)).alloc (.cells #[.bool false,.slice D m d] 41)).alloc (.cells #[.bool false,.slice none 0 0] 41)=W0 at*;have g1:W0.cell? ⟨w.heap.size,0,none⟩=some (.bool true):=x1.cell 0;have e1:W0.cell? ⟨w.heap.size,1,none⟩=some (.slice A n c):=x1.cell 1;have g2:W0.cell? ⟨w.heap.size+1,0,none⟩=some (.bool false):=x2.cell 0;have e2:W0.cell? ⟨w.heap.size+1,1,none⟩=some (.slice D m d):=x2.cell 1;clear x1 x2 x5;refine(J.o _ hB).mono ?_;rintro e w1 ⟨rfl,qd,rfl⟩;have hB:=uY hB qd;have hk:=hk.drewN qd;have g1:(W0.drewN qd).cell? ⟨w.heap.size,0,none⟩=some (.bool true):=g1;have e1:(W0.drewN qd).cell? ⟨w.heap.size,1,none⟩=some (.slice A n c):=e1;have g2:(W0.drewN qd).cell? ⟨w.heap.size+1,0,none⟩=some (.bool false):=g2;have e2:(W0.drewN qd).cell? ⟨w.heap.size+1,1,none⟩=some (.slice D m d):=e2;go_wp2_with fail;generalize W0.drewN qd=W0 at*;have j0:W0.drew.cell? ⟨w.heap.size,0,none⟩=some (.bool true):=g1;have j1:W0.drew.cell? ⟨w.heap.size,1,none⟩=some (.slice A n c):=e1;have j2:W0.drew.cell? ⟨w.heap.size+1,1,none⟩=some (.slice D m d):=e2;have i:=hB.drew;have E:=hk.drew
   go_region_held3 (fun w' => Below w.heap.size w w' ∧ w'.cell? ⟨w.heap.size,0,none⟩ = some (.bool true) ∧ w'.cell? ⟨w.heap.size,1,none⟩ = some (.slice A n c) ∧ w'.cell? ⟨w.heap.size + 1,1,none⟩ = some (.slice D m d))
    (first|(exact⟨i,j0,j1,j2⟩)|(go_split_ands;(repeat' apply And.intro);all_goals (first|exact zl|exact zc zl hb|exact zq hb zl|exact zB _ zA (zB _ zA zl)|exact zW _ zA (zW _ zA zl))))
    (first
      |(go_at_call 137;(with_reducible refine(z.o _ (by first|exact zl|exact XO zl)).mono ?_);intro e w2 hg;obtain⟨A2,n2,c2,rfl,s,hb⟩:=hg.elim;have F:=zg hb E;have G:=C.o n2 s.len)
      |(go_at_call 90;(with_reducible refine(B.out _ _ _ _ s G).mono ?_);rintro e w3 ⟨b3,A3,n3,c3,rfl,t,hb⟩;go_split_ands;have a:=zg hb F;have c0:=a.cell 0;have f0:=a.frozen 0;have c1:(w3.setCell ⟨w.heap.size+1+1,0,none⟩ (.bool b3)).cell? ⟨w.heap.size+1+1,1,none⟩=some (.slice none 0 0):=(a.set_ 0 (.bool b3)).cell 1;have f1:=(a.set_ 0 (.bool b3)).frozen 1;have j:Below w.heap.size w w3:=zc zl hb))
   have g:=(a.set_ 0 (.bool b3)).set_ 1 (.slice A3 n3 c3);have r0:=g.cell 0;have r1:=g.cell 1;have u:=oR t a b3 A3 n3 c3;have k:=zB (p:=⟨w.heap.size+1+1,1,none⟩) (.slice A3 n3 c3) zA (zB (p:=⟨w.heap.size+1+1,0,none⟩) (.bool b3) zA j);have HG:zd (wJ w (x+y) (.returned (.agg #[.bool b3,.slice A3 n3 c3])) ((w3.setCell ⟨w.heap.size+1+1,0,none⟩ (.bool b3)).setCell ⟨w.heap.size+1+1,1,none⟩ (.slice A3 n3 c3))):=by
    show wJ _ _ _ _;rw [HZ.o];exact⟨b3,A3,n3,c3,rfl,u,k⟩
   clear g u k j t c0 c1 f0 f1 i hb;go_wp2;refine bodyPost_ret (v:=.agg #[.bool b3,.slice A3 n3 c3]) (by simp [results,results99,go_sem,r0,r1]) rfl ?_;exact HG.o
  ·have M:yg X Y<0:=by rw [sh za];decide
   have C:zd (∀q,q=(dg 65536 (Y - X)).length->q<=1099511627776):=λq hq=>by
    rw [hq];refine qD (wP zf _ (n+m+1) ?_) za;exact QO (Nat.sub_le _ _) (qJ O.o (qG zf za))
   have B:=zb (λw' A n c (h:zE w' (Y - X) A n c) hl=>sX false (Y - X) A n c w' h hl);have HZ:zd (x+y=xk false (Y - X)):=by show _=_;unfold xk;simp only [Bool.false_eq_true,if_true,if_false];omega
   have z:=zj w (λw' h=>ki Y X za D A m n d c w' (L.o w' h) (K.o w' h) za za);obtain⟨cm,o⟩:∃q,yg X Y=q:=⟨_,rfl⟩;rw [o] at M J;have kc:decide (0<=cm)=false:=by simp;omega
   clear H I h1 h2 hX hY hle o;go_enter func99,ntmps99;go_wp2_with fail;generalize ((w.alloc (.cells #[.bool true,.slice A n c] 41)).alloc (.cells #[.bool false,.slice D m d] 41)).alloc (.cells #[.bool false,.slice none 0 0] 41)=W0 at*;have g1:W0.cell? ⟨w.heap.size,0,none⟩=some (.bool true):=x1.cell 0;have e1:W0.cell? ⟨w.heap.size,1,none⟩=some (.slice A n c):=x1.cell 1;have g2:W0.cell? ⟨w.heap.size+1,0,none⟩=some (.bool false):=x2.cell 0;have e2:W0.cell? ⟨w.heap.size+1,1,none⟩=some (.slice D m d):=x2.cell 1;clear x1 x2 x5;refine(J.o _ hB).mono ?_;rintro e w1 ⟨rfl,qd,rfl⟩;have hB:=uY hB qd;have hk:=hk.drewN qd;have g1:(W0.drewN qd).cell? ⟨w.heap.size,0,none⟩=some (.bool true):=g1;have e1:(W0.drewN qd).cell? ⟨w.heap.size,1,none⟩=some (.slice A n c):=e1;have g2:(W0.drewN qd).cell? ⟨w.heap.size+1,0,none⟩=some (.bool false):=g2;have e2:(W0.drewN qd).cell? ⟨w.heap.size+1,1,none⟩=some (.slice D m d):=e2;go_wp2_with fail;generalize W0.drewN qd=W0 at*;have j0:W0.drew.cell? ⟨w.heap.size+1,0,none⟩=some (.bool false):=g2;have j1:W0.drew.cell? ⟨w.heap.size+1,1,none⟩=some (.slice D m d):=e2;have j2:W0.drew.cell? ⟨w.heap.size,1,none⟩=some (.slice A n c):=e1;have i:=hB.drew;have E:=hk.drew
   go_region_held3 (fun w' => Below w.heap.size w w' ∧ w'.cell? ⟨w.heap.size + 1,0,none⟩ = some (.bool false) ∧ w'.cell? ⟨w.heap.size + 1,1,none⟩ = some (.slice D m d) ∧ w'.cell? ⟨w.heap.size,1,none⟩ = some (.slice A n c))
    (first|(exact⟨i,j0,j1,j2⟩)|(go_split_ands;(repeat' apply And.intro);all_goals (first|exact zl|exact zc zl hb|exact zq hb zl|exact zB _ zA (zB _ zA zl)|exact zW _ zA (zW _ zA zl))))
    (first
      |(go_at_call 137;(with_reducible refine(z.o _ (by first|exact zl|exact XO zl)).mono ?_);intro e w2 hg;obtain⟨A2,n2,c2,rfl,s,hb⟩:=hg.elim;have F:=zg hb E;have G:=C.o n2 s.len)
      |(go_at_call 90;(with_reducible refine(B.out _ _ _ _ s G).mono ?_);rintro e w3 ⟨b3,A3,n3,c3,rfl,t,hb⟩;go_split_ands;have a:=zg hb F;have c0:=a.cell 0;have f0:=a.frozen 0;have c1:(w3.setCell ⟨w.heap.size+1+1,0,none⟩ (.bool b3)).cell? ⟨w.heap.size+1+1,1,none⟩=some (.slice none 0 0):=(a.set_ 0 (.bool b3)).cell 1;have f1:=(a.set_ 0 (.bool b3)).frozen 1;have j:Below w.heap.size w w3:=zc zl hb))
   have g:=(a.set_ 0 (.bool b3)).set_ 1 (.slice A3 n3 c3);have r0:=g.cell 0;have r1:=g.cell 1;have u:=oR t a b3 A3 n3 c3;have k:=zB (p:=⟨w.heap.size+1+1,1,none⟩) (.slice A3 n3 c3) zA (zB (p:=⟨w.heap.size+1+1,0,none⟩) (.bool b3) zA j);have HG:zd (wJ w (x+y) (.returned (.agg #[.bool b3,.slice A3 n3 c3])) ((w3.setCell ⟨w.heap.size+1+1,0,none⟩ (.bool b3)).setCell ⟨w.heap.size+1+1,1,none⟩ (.slice A3 n3 c3))):=by
    show wJ _ _ _ _;rw [HZ.o];exact⟨b3,A3,n3,c3,rfl,u,k⟩
   clear g u k j t c0 c1 f0 f1 i hb;go_wp2;refine bodyPost_ret (v:=.agg #[.bool b3,.slice A3 n3 c3]) (by simp [results,results99,go_sem,r0,r1]) rfl ?_;exact HG.o
 ·have h1:x<0:=by simpa using H
  have h2:y<0:=by simpa using I
  have C:zd (∀q,q=(dg 65536 (X+Y)).length->q<=1099511627776):=λq hq=>by
   rw [hq];refine qD (wP zf _ (n+m+1) ?_) za;exact qJ (Nat.add_lt_add N.o O.o) (SO _ _)
  have B:=zb (λw' A n c (h:zE w' (X+Y) A n c) hl=>sX true (X+Y) A n c w' h hl);have HZ:zd (x+y=xk true (X+Y)):=by show _=_;unfold xk;simp only [Bool.false_eq_true,if_true,if_false];omega
  have z:=zj w (λw' h=>R.o A D n m c d w' (K.o w' h) (L.o w' h) za za);clear H I h1 h2 hX hY;go_enter func99,ntmps99;go_wp2_with fail;generalize ((w.alloc (.cells #[.bool true,.slice A n c] 41)).alloc (.cells #[.bool true,.slice D m d] 41)).alloc (.cells #[.bool false,.slice none 0 0] 41)=W0 at*;have g1:W0.cell? ⟨w.heap.size,0,none⟩=some (.bool true):=x1.cell 0;have e1:W0.cell? ⟨w.heap.size,1,none⟩=some (.slice A n c):=x1.cell 1;have g2:W0.cell? ⟨w.heap.size+1,0,none⟩=some (.bool true):=x2.cell 0;have e2:W0.cell? ⟨w.heap.size+1,1,none⟩=some (.slice D m d):=x2.cell 1;clear x1 x2 x5;have j0:W0.drew.cell? ⟨w.heap.size,0,none⟩=some (.bool true):=g1;have j1:W0.drew.cell? ⟨w.heap.size,1,none⟩=some (.slice A n c):=e1;have j2:W0.drew.cell? ⟨w.heap.size+1,1,none⟩=some (.slice D m d):=e2;have i:=hB.drew;have E:=hk.drew
  go_region_held3 (fun w' => Below w.heap.size w w' ∧ w'.cell? ⟨w.heap.size,0,none⟩ = some (.bool true) ∧ w'.cell? ⟨w.heap.size,1,none⟩ = some (.slice A n c) ∧ w'.cell? ⟨w.heap.size + 1,1,none⟩ = some (.slice D m d))
   (first|(exact⟨i,j0,j1,j2⟩)|(go_split_ands;(repeat' apply And.intro);all_goals (first|exact zl|exact zc zl hb|exact zq hb zl|exact zB _ zA (zB _ zA zl)|exact zW _ zA (zW _ zA zl))))
   (first
     |(go_at_call 133;(with_reducible refine(z.o _ (by first|exact zl|exact XO zl)).mono ?_);intro e w2 hg;obtain⟨A2,n2,c2,rfl,s,hb⟩:=hg.elim;have F:=zg hb E;have G:=C.o n2 s.len)
     |(go_at_call 90;(with_reducible refine(B.out _ _ _ _ s G).mono ?_);rintro e w3 ⟨b3,A3,n3,c3,rfl,t,hb⟩;go_split_ands;have a:=zg hb F;have c0:=a.cell 0;have f0:=a.frozen 0;have c1:(w3.setCell ⟨w.heap.size+1+1,0,none⟩ (.bool b3)).cell? ⟨w.heap.size+1+1,1,none⟩=some (.slice none 0 0):=(a.set_ 0 (.bool b3)).cell 1;have f1:=(a.set_ 0 (.bool b3)).frozen 1;have j:Below w.heap.size w w3:=zc zl hb))
  have g:=(a.set_ 0 (.bool b3)).set_ 1 (.slice A3 n3 c3);have r0:=g.cell 0;have r1:=g.cell 1;have u:=oR t a b3 A3 n3 c3;have k:=zB (p:=⟨w.heap.size+1+1,1,none⟩) (.slice A3 n3 c3) zA (zB (p:=⟨w.heap.size+1+1,0,none⟩) (.bool b3) zA j);have HG:zd (wJ w (x+y) (.returned (.agg #[.bool b3,.slice A3 n3 c3])) ((w3.setCell ⟨w.heap.size+1+1,0,none⟩ (.bool b3)).setCell ⟨w.heap.size+1+1,1,none⟩ (.slice A3 n3 c3))):=by
   show wJ _ _ _ _;rw [HZ.o];exact⟨b3,A3,n3,c3,rfl,u,k⟩
  clear g u k j t c0 c1 f0 f1 i hb;go_wp2;refine bodyPost_ret (v:=.agg #[.bool b3,.slice A3 n3 c3]) (by simp [results,results99,go_sem,r0,r1]) rfl ?_;exact HG.o
theorem Xt (x y:Int)(b b':Bool)(A D:ze)(n m c d:Nat)(w:World)(hA:yu w x b A n c)(hD:yu w y b' D m d)(hn:n<=4294967296)(hm:m<=4294967296):
  Calls prog 93 #[.agg #[.bool b,.slice A n c],.agg #[.bool b',.slice D m d]] w (wJ w (x*y)):=by
 obtain⟨hB,x1,x2,hk,x5⟩:=yF w 41 41 41 #[.bool b,.slice A n c] #[.bool b',.slice D m d] #[.bool false,.slice none 0 0];have M:=zj w (λw' h=>hA.2.below h);have N:=zj w (λw' h=>hD.2.below h);have u:=hA.1;have z:=hD.1;have L:=hA.2.len;have K:=hD.2.len;obtain⟨X,hX⟩:∃q,x.natAbs=q:=⟨_,rfl⟩;obtain⟨Y,hY⟩:∃q,y.natAbs=q:=⟨_,rfl⟩;rw [hX] at M L;rw [hY] at N K;have I:zd (X<65536^n):=by show _<_;rw [L];exact yv zf X
 have J:zd (Y<65536^m):=by show _<_;rw [K];exact yv zf Y
 clear hA hD L K;have H:=zj w (λw' h=>Xs X Y A D n m c d w' (M.o w' h) (N.o w' h) za za);cases b<;>cases b'
 ·have h1:0<=x:=by simpa using u
  have h2:0<=y:=by simpa using z
  have C:zd (∀q,q=(dg 65536 (X*Y)).length->q<=1099511627776):=λq hq=>by
   rw [hq];refine qD (wP zf _ (n+m+1) ?_) za;exact by rw [show n+m+1=(n+m)+1 from rfl,qO,xU];exact qJ (XP I.o J.o) (Nat.le_mul_of_pos_right _ zf)
  have B:=zb (λw' A n c (h:zE w' (X*Y) A n c) hl=>sX false (X*Y) A n c w' h hl);have HZ:zd (x*y=xk false (X*Y)):=by show _=_;unfold xk;simp only [Bool.false_eq_true,if_true,if_false];rw [show x=(X:Int) by omega,show y=(Y:Int) by omega];simp [Int.neg_mul,Int.mul_neg]
  clear u z h1 h2 hX hY;go_enter func93,ntmps93;go_wp2_with fail;generalize ((w.alloc (.cells #[.bool false,.slice A n c] 41)).alloc (.cells #[.bool false,.slice D m d] 41)).alloc (.cells #[.bool false,.slice none 0 0] 41)=W0 at*;have g1:W0.cell? ⟨w.heap.size,0,none⟩=some (.bool false):=x1.cell 0;have e1:W0.cell? ⟨w.heap.size,1,none⟩=some (.slice A n c):=x1.cell 1;have g2:W0.cell? ⟨w.heap.size+1,0,none⟩=some (.bool false):=x2.cell 0;have e2:W0.cell? ⟨w.heap.size+1,1,none⟩=some (.slice D m d):=x2.cell 1;clear x1 x2 x5;have j0:W0.drew.cell? ⟨w.heap.size,0,none⟩=some (.bool false):=g1;have j1:W0.drew.cell? ⟨w.heap.size+1,0,none⟩=some (.bool false):=g2;have j2:W0.drew.cell? ⟨w.heap.size,1,none⟩=some (.slice A n c):=e1;have j3:W0.drew.cell? ⟨w.heap.size+1,1,none⟩=some (.slice D m d):=e2;have i:=hB.drew;have E:=hk.drew
  go_region_held3 (fun w' => Below w.heap.size w w' ∧ w'.cell? ⟨w.heap.size,0,none⟩ = some (.bool false) ∧ w'.cell? ⟨w.heap.size + 1,0,none⟩ = some (.bool false) ∧ w'.cell? ⟨w.heap.size,1,none⟩ = some (.slice A n c) ∧ w'.cell? ⟨w.heap.size + 1,1,none⟩ = some (.slice D m d))
   (first|(exact⟨i,j0,j1,j2,j3⟩)|(go_split_ands;(repeat' apply And.intro);all_goals (first|exact zl|exact zc zl hb|exact zq hb zl|exact zB _ zA (zB _ zA zl)|exact zW _ zA (zW _ zA zl))))
   (first
     |(go_at_call 95;(with_reducible refine(H.o _ (by first|exact zl|exact XO zl)).mono ?_);rintro e w2 ⟨A2,n2,c2,rfl,o,hb⟩;have F:=zg hb E;have G:=C.o n2 o.len)
     |(go_at_call 90;(with_reducible refine(B.out _ _ _ _ o G).mono ?_);rintro e w3 ⟨b3,A3,n3,c3,rfl,s,hb⟩;go_split_ands;have a:=zg hb F;have c0:=a.cell 0;have f0:=a.frozen 0;have c1:(w3.setCell ⟨w.heap.size+1+1,0,none⟩ (.bool b3)).cell? ⟨w.heap.size+1+1,1,none⟩=some (.slice none 0 0):=(a.set_ 0 (.bool b3)).cell 1;have f1:=(a.set_ 0 (.bool b3)).frozen 1;have j:Below w.heap.size w w3:=zc zl hb))
  have g:=(a.set_ 0 (.bool b3)).set_ 1 (.slice A3 n3 c3);have r0:=g.cell 0;have r1:=g.cell 1;have t:=oR s a b3 A3 n3 c3;have k:=zB (p:=⟨w.heap.size+1+1,1,none⟩) (.slice A3 n3 c3) zA (zB (p:=⟨w.heap.size+1+1,0,none⟩) (.bool b3) zA j);have HG:zd (wJ w (x*y) (.returned (.agg #[.bool b3,.slice A3 n3 c3])) ((w3.setCell ⟨w.heap.size+1+1,0,none⟩ (.bool b3)).setCell ⟨w.heap.size+1+1,1,none⟩ (.slice A3 n3 c3))):=by
   show wJ _ _ _ _;rw [HZ.o];exact⟨b3,A3,n3,c3,rfl,t,k⟩
  clear g t k j s c0 c1 f0 f1 i hb;go_wp2;refine bodyPost_ret (v:=.agg #[.bool b3,.slice A3 n3 c3]) (by simp [results,results93,go_sem,r0,r1]) rfl ?_;exact HG.o
 ·have h1:0<=x:=by simpa using u
  have h2:y<0:=by simpa using z
  have C:zd (∀q,q=(dg 65536 (X*Y)).length->q<=1099511627776):=λq hq=>by
   rw [hq];refine qD (wP zf _ (n+m+1) ?_) za;exact by rw [show n+m+1=(n+m)+1 from rfl,qO,xU];exact qJ (XP I.o J.o) (Nat.le_mul_of_pos_right _ zf)
  have B:=zb (λw' A n c (h:zE w' (X*Y) A n c) hl=>sX true (X*Y) A n c w' h hl);have HZ:zd (x*y=xk true (X*Y)):=by show _=_;unfold xk;simp only [Bool.false_eq_true,if_true,if_false];rw [show x=(X:Int) by omega,show y= -(Y:Int) by omega];simp [Int.neg_mul,Int.mul_neg]
  clear u z h1 h2 hX hY;go_enter func93,ntmps93;go_wp2_with fail;generalize ((w.alloc (.cells #[.bool false,.slice A n c] 41)).alloc (.cells #[.bool true,.slice D m d] 41)).alloc (.cells #[.bool false,.slice none 0 0] 41)=W0 at*;have g1:W0.cell? ⟨w.heap.size,0,none⟩=some (.bool false):=x1.cell 0;have e1:W0.cell? ⟨w.heap.size,1,none⟩=some (.slice A n c):=x1.cell 1;have g2:W0.cell? ⟨w.heap.size+1,0,none⟩=some (.bool true):=x2.cell 0;have e2:W0.cell? ⟨w.heap.size+1,1,none⟩=some (.slice D m d):=x2.cell 1;clear x1 x2 x5;have j0:W0.drew.cell? ⟨w.heap.size,0,none⟩=some (.bool false):=g1;have j1:W0.drew.cell? ⟨w.heap.size+1,0,none⟩=some (.bool true):=g2;have j2:W0.drew.cell? ⟨w.heap.size,1,none⟩=some (.slice A n c):=e1;have j3:W0.drew.cell? ⟨w.heap.size+1,1,none⟩=some (.slice D m d):=e2;have i:=hB.drew;have E:=hk.drew
  go_region_held3 (fun w' => Below w.heap.size w w' ∧ w'.cell? ⟨w.heap.size,0,none⟩ = some (.bool false) ∧ w'.cell? ⟨w.heap.size + 1,0,none⟩ = some (.bool true) ∧ w'.cell? ⟨w.heap.size,1,none⟩ = some (.slice A n c) ∧ w'.cell? ⟨w.heap.size + 1,1,none⟩ = some (.slice D m d))
   (first|(exact⟨i,j0,j1,j2,j3⟩)|(go_split_ands;(repeat' apply And.intro);all_goals (first|exact zl|exact zc zl hb|exact zq hb zl|exact zB _ zA (zB _ zA zl)|exact zW _ zA (zW _ zA zl))))
   (first
     |(go_at_call 95;(with_reducible refine(H.o _ (by first|exact zl|exact XO zl)).mono ?_);rintro e w2 ⟨A2,n2,c2,rfl,o,hb⟩;have F:=zg hb E;have G:=C.o n2 o.len)
     |(go_at_call 90;(with_reducible refine(B.out _ _ _ _ o G).mono ?_);rintro e w3 ⟨b3,A3,n3,c3,rfl,s,hb⟩;go_split_ands;have a:=zg hb F;have c0:=a.cell 0;have f0:=a.frozen 0;have c1:(w3.setCell ⟨w.heap.size+1+1,0,none⟩ (.bool b3)).cell? ⟨w.heap.size+1+1,1,none⟩=some (.slice none 0 0):=(a.set_ 0 (.bool b3)).cell 1;have f1:=(a.set_ 0 (.bool b3)).frozen 1;have j:Below w.heap.size w w3:=zc zl hb))
  have g:=(a.set_ 0 (.bool b3)).set_ 1 (.slice A3 n3 c3);have r0:=g.cell 0;have r1:=g.cell 1;have t:=oR s a b3 A3 n3 c3;have k:=zB (p:=⟨w.heap.size+1+1,1,none⟩) (.slice A3 n3 c3) zA (zB (p:=⟨w.heap.size+1+1,0,none⟩) (.bool b3) zA j);have HG:zd (wJ w (x*y) (.returned (.agg #[.bool b3,.slice A3 n3 c3])) ((w3.setCell ⟨w.heap.size+1+1,0,none⟩ (.bool b3)).setCell ⟨w.heap.size+1+1,1,none⟩ (.slice A3 n3 c3))):=by
   show wJ _ _ _ _;rw [HZ.o];exact⟨b3,A3,n3,c3,rfl,t,k⟩
  clear g t k j s c0 c1 f0 f1 i hb;go_wp2;refine bodyPost_ret (v:=.agg #[.bool b3,.slice A3 n3 c3]) (by simp [results,results93,go_sem,r0,r1]) rfl ?_;exact HG.o
 ·have h1:x<0:=by simpa using u
  have h2:0<=y:=by simpa using z
  have C:zd (∀q,q=(dg 65536 (X*Y)).length->q<=1099511627776):=λq hq=>by
   rw [hq];refine qD (wP zf _ (n+m+1) ?_) za;exact by rw [show n+m+1=(n+m)+1 from rfl,qO,xU];exact qJ (XP I.o J.o) (Nat.le_mul_of_pos_right _ zf)
  have B:=zb (λw' A n c (h:zE w' (X*Y) A n c) hl=>sX true (X*Y) A n c w' h hl);have HZ:zd (x*y=xk true (X*Y)):=by show _=_;unfold xk;simp only [Bool.false_eq_true,if_true,if_false];rw [show x= -(X:Int) by omega,show y=(Y:Int) by omega];simp [Int.neg_mul,Int.mul_neg]
  clear u z h1 h2 hX hY;go_enter func93,ntmps93;go_wp2_with fail;generalize ((w.alloc (.cells #[.bool true,.slice A n c] 41)).alloc (.cells #[.bool false,.slice D m d] 41)).alloc (.cells #[.bool false,.slice none 0 0] 41)=W0 at*;have g1:W0.cell? ⟨w.heap.size,0,none⟩=some (.bool true):=x1.cell 0;have e1:W0.cell? ⟨w.heap.size,1,none⟩=some (.slice A n c):=x1.cell 1;have g2:W0.cell? ⟨w.heap.size+1,0,none⟩=some (.bool false):=x2.cell 0;have e2:W0.cell? ⟨w.heap.size+1,1,none⟩=some (.slice D m d):=x2.cell 1;clear x1 x2 x5;have j0:W0.drew.cell? ⟨w.heap.size,0,none⟩=some (.bool true):=g1;have j1:W0.drew.cell? ⟨w.heap.size+1,0,none⟩=some (.bool false):=g2;have j2:W0.drew.cell? ⟨w.heap.size,1,none⟩=some (.slice A n c):=e1;have j3:W0.drew.cell? ⟨w.heap.size+1,1,none⟩=some (.slice D m d):=e2;have i:=hB.drew;have E:=hk.drew
  go_region_held3 (fun w' => Below w.heap.size w w' ∧ w'.cell? ⟨w.heap.size,0,none⟩ = some (.bool true) ∧ w'.cell? ⟨w.heap.size + 1,0,none⟩ = some (.bool false) ∧ w'.cell? ⟨w.heap.size,1,none⟩ = some (.slice A n c) ∧ w'.cell? ⟨w.heap.size + 1,1,none⟩ = some (.slice D m d))
   (first|(exact⟨i,j0,j1,j2,j3⟩)|(go_split_ands;(repeat' apply And.intro);all_goals (first|exact zl|exact zc zl hb|exact zq hb zl|exact zB _ zA (zB _ zA zl)|exact zW _ zA (zW _ zA zl))))
   (first
     |(go_at_call 95;(with_reducible refine(H.o _ (by first|exact zl|exact XO zl)).mono ?_);rintro e w2 ⟨A2,n2,c2,rfl,o,hb⟩;have F:=zg hb E;have G:=C.o n2 o.len)
     |(go_at_call 90;(with_reducible refine(B.out _ _ _ _ o G).mono ?_);rintro e w3 ⟨b3,A3,n3,c3,rfl,s,hb⟩;go_split_ands;have a:=zg hb F;have c0:=a.cell 0;have f0:=a.frozen 0;have c1:(w3.setCell ⟨w.heap.size+1+1,0,none⟩ (.bool b3)).cell? ⟨w.heap.size+1+1,1,none⟩=some (.slice none 0 0):=(a.set_ 0 (.bool b3)).cell 1;have f1:=(a.set_ 0 (.bool b3)).frozen 1;have j:Below w.heap.size w w3:=zc zl hb))
  have g:=(a.set_ 0 (.bool b3)).set_ 1 (.slice A3 n3 c3);have r0:=g.cell 0;have r1:=g.cell 1;have t:=oR s a b3 A3 n3 c3;have k:=zB (p:=⟨w.heap.size+1+1,1,none⟩) (.slice A3 n3 c3) zA (zB (p:=⟨w.heap.size+1+1,0,none⟩) (.bool b3) zA j);have HG:zd (wJ w (x*y) (.returned (.agg #[.bool b3,.slice A3 n3 c3])) ((w3.setCell ⟨w.heap.size+1+1,0,none⟩ (.bool b3)).setCell ⟨w.heap.size+1+1,1,none⟩ (.slice A3 n3 c3))):=by
   show wJ _ _ _ _;rw [HZ.o];exact⟨b3,A3,n3,c3,rfl,t,k⟩
  clear g t k j s c0 c1 f0 f1 i hb;go_wp2;refine bodyPost_ret (v:=.agg #[.bool b3,.slice A3 n3 c3]) (by simp [results,results93,go_sem,r0,r1]) rfl ?_;exact HG.o
 ·have h1:x<0:=by simpa using u
  have h2:y<0:=by simpa using z
  have C:zd (∀q,q=(dg 65536 (X*Y)).length->q<=1099511627776):=λq hq=>by
   rw [hq];refine qD (wP zf _ (n+m+1) ?_) za;exact by rw [show n+m+1=(n+m)+1 from rfl,qO,xU];exact qJ (XP I.o J.o) (Nat.le_mul_of_pos_right _ zf)
  have B:=zb (λw' A n c (h:zE w' (X*Y) A n c) hl=>sX false (X*Y) A n c w' h hl);have HZ:zd (x*y=xk false (X*Y)):=by show _=_;unfold xk;simp only [Bool.false_eq_true,if_true,if_false];rw [show x= -(X:Int) by omega,show y= -(Y:Int) by omega];simp [Int.neg_mul,Int.mul_neg]
  clear u z h1 h2 hX hY;go_enter func93,ntmps93;go_wp2_with fail;generalize ((w.alloc (.cells #[.bool true,.slice A n c] 41)).alloc (.cells #[.bool true,.slice D m d] 41)).alloc (.cells #[.bool false,.slice none 0 0] 41)=W0 at*;have g1:W0.cell? ⟨w.heap.size,0,none⟩=some (.bool true):=x1.cell 0;have e1:W0.cell? ⟨w.heap.size,1,none⟩=some (.slice A n c):=x1.cell 1;have g2:W0.cell? ⟨w.heap.size+1,0,none⟩=some (.bool true):=x2.cell 0;have e2:W0.cell? ⟨w.heap.size+1,1,none⟩=some (.slice D m d):=x2.cell 1;clear x1 x2 x5;have j0:W0.drew.cell? ⟨w.heap.size,0,none⟩=some (.bool true):=g1;have j1:W0.drew.cell? ⟨w.heap.size+1,0,none⟩=some (.bool true):=g2;have j2:W0.drew.cell? ⟨w.heap.size,1,none⟩=some (.slice A n c):=e1;have j3:W0.drew.cell? ⟨w.heap.size+1,1,none⟩=some (.slice D m d):=e2;have i:=hB.drew;have E:=hk.drew
  go_region_held3 (fun w' => Below w.heap.size w w' ∧ w'.cell? ⟨w.heap.size,0,none⟩ = some (.bool true) ∧ w'.cell? ⟨w.heap.size + 1,0,none⟩ = some (.bool true) ∧ w'.cell? ⟨w.heap.size,1,none⟩ = some (.slice A n c) ∧ w'.cell? ⟨w.heap.size + 1,1,none⟩ = some (.slice D m d))
   (first|(exact⟨i,j0,j1,j2,j3⟩)|(go_split_ands;(repeat' apply And.intro);all_goals (first|exact zl|exact zc zl hb|exact zq hb zl|exact zB _ zA (zB _ zA zl)|exact zW _ zA (zW _ zA zl))))
   (first
     |(go_at_call 95;(with_reducible refine(H.o _ (by first|exact zl|exact XO zl)).mono ?_);rintro e w2 ⟨A2,n2,c2,rfl,o,hb⟩;have F:=zg hb E;have G:=C.o n2 o.len)
     |(go_at_call 90;(with_reducible refine(B.out _ _ _ _ o G).mono ?_);rintro e w3 ⟨b3,A3,n3,c3,rfl,s,hb⟩;go_split_ands;have a:=zg hb F;have c0:=a.cell 0;have f0:=a.frozen 0;have c1:(w3.setCell ⟨w.heap.size+1+1,0,none⟩ (.bool b3)).cell? ⟨w.heap.size+1+1,1,none⟩=some (.slice none 0 0):=(a.set_ 0 (.bool b3)).cell 1;have f1:=(a.set_ 0 (.bool b3)).frozen 1;have j:Below w.heap.size w w3:=zc zl hb))
  have g:=(a.set_ 0 (.bool b3)).set_ 1 (.slice A3 n3 c3);have r0:=g.cell 0;have r1:=g.cell 1;have t:=oR s a b3 A3 n3 c3;have k:=zB (p:=⟨w.heap.size+1+1,1,none⟩) (.slice A3 n3 c3) zA (zB (p:=⟨w.heap.size+1+1,0,none⟩) (.bool b3) zA j);have HG:zd (wJ w (x*y) (.returned (.agg #[.bool b3,.slice A3 n3 c3])) ((w3.setCell ⟨w.heap.size+1+1,0,none⟩ (.bool b3)).setCell ⟨w.heap.size+1+1,1,none⟩ (.slice A3 n3 c3))):=by
   show wJ _ _ _ _;rw [HZ.o];exact⟨b3,A3,n3,c3,rfl,t,k⟩
  clear g t k j s c0 c1 f0 f1 i hb;go_wp2;refine bodyPost_ret (v:=.agg #[.bool b3,.slice A3 n3 c3]) (by simp [results,results93,go_sem,r0,r1]) rfl ?_;exact HG.o
