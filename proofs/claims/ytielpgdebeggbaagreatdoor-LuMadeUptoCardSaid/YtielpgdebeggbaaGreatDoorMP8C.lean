/- What this claim leans on. -/
import Derived.Test.YtielpgdebeggbaaGreatDoorMBunF
set_option linter.unusedVariables false
set_option linter.unusedSimpArgs false
namespace Go.Proofs.YtielpgdebeggbaaGreatDoor
open Go Go.RowKit Go.Proofs.Tryz
set_option maxHeartbeats 16000000
variable {a:Act}{b:Bool}{B c f k n:Nat}{W W' w w':World}{A E:ze}
def tF (w:World)(q:Nat)(A:ze)(n c:Nat):Prop:=∃x,(q=(if x=0 then 1 else x)/\x≠1)/\zq w x A n c
theorem tF.below {q:Nat}(h:tF w q A n c)(hb:Below w.heap.size w w'):tF w' q A n c:=by
 obtain⟨x,e,h1⟩:=h;exact⟨x,e,h1.below hb⟩
def zo (w:World)(r:Rat)(b:Bool)(A:ze)(n c:Nat)(E:ze)(k f:Nat):Prop:=yi w r.num b A n c/\tF w r.den E k f
theorem zo.below {r:Rat}(h:zo w r b A n c E k f)(hb:Below w.heap.size w w'):zo w' r b A n c E k f:=⟨h.1.below hb,h.2.below hb⟩
theorem zo.to {r s:Rat}(e:r=s)(h:zo w r b A n c E k f):zo w s b A n c E k f:=e▸h
def yj (w:World)(r:Rat)(e:Ending)(w':World):Prop:=∃(b:Bool) (A:ze) (n c:Nat) (E:ze) (k f:Nat),e=.returned (.agg #[.bool b,.slice A n c,.slice E k f])/\zo w' r b A n c E k f/\Below w.heap.size w w'
def ub (w:World)(r:Rat)(t:Bool)(e:Ending)(w':World):Prop:=∃(b:Bool) (A:ze) (n c:Nat) (E:ze) (k f:Nat),e=.returned (.tuple #[.agg #[.bool b,.slice A n c,.slice E k f],.bool t])/\zo w' r b A n c E k f/\Below w.heap.size w w'
def zY (n k:Nat):Prop:=n<=67108864/\k<=67108864
structure lP (T:World->Prop):Prop where
 mul:∀(r s:Rat) (b b':Bool) (A A':ze) (n n' c c':Nat) (E E':ze) (k k' f f':Nat) (w:World),T w->zo w r b A n c E k f->zo w s b' A' n' c' E' k' f'->zY n k->zY n' k'->Calls prog 44 #[.agg #[.bool b,.slice A n c,.slice E k f],.agg #[.bool b',.slice A' n' c',.slice E' k' f']] w (yj w (r*s))
 div:∀(r s:Rat) (b b':Bool) (A A':ze) (n n' c c':Nat) (E E':ze) (k k' f f':Nat) (w:World),T w->zo w r b A n c E k f->zo w s b' A' n' c' E' k' f'->zY n k->zY n' k'->s≠0->Calls prog 21 #[.agg #[.bool b,.slice A n c,.slice E k f],.agg #[.bool b',.slice A' n' c',.slice E' k' f']] w (ub w (r / s) true)
 divNo:∀(r s:Rat) (b b':Bool) (A A':ze) (n n' c c':Nat) (E E':ze) (k k' f f':Nat) (w:World),T w->zo w r b A n c E k f->zo w s b' A' n' c' E' k' f'->zY n k->zY n' k'->s=0->Calls prog 21 #[.agg #[.bool b,.slice A n c,.slice E k f],.agg #[.bool b',.slice A' n' c',.slice E' k' f']] w (ub w 0 false)
structure lQ (T:World->Prop):Prop where
structure lR (T:World->Prop):Prop where
 int:∀(z:Int) (w:World),T w-> -9223372036854775808<=z->z<=9223372036854775807->Calls prog 25 #[.int .i64 z] w (yj w (z:Rat))
 whole:∀(z:Int) (b:Bool) (A:ze) (n c:Nat) (w:World),T w->yi w z b A n c->n<=67108864->Calls prog 121 #[.agg #[.bool b,.slice A n c]] w (yj w (z:Rat))
structure kN (T:World->Prop)(M:Nat->Prop):Prop where
 g0:M 0->lP T
 g1:M 1->lQ T
 g2:M 2->lR T
 new:∀(p q:Int) (b b':Bool) (A D:ze) (n m c d:Nat) (w:World),T w->yi w p b A n c->yi w q b' D m d->n<=67108864->m<=67108864->q≠0->Calls prog 102 #[.agg #[.bool b,.slice A n c],.agg #[.bool b',.slice D m d]] w (ub w (Rat.divInt p q) true)
 newNo:∀(p q:Int) (b b':Bool) (A D:ze) (n m c d:Nat) (w:World),T w->yi w p b A n c->yi w q b' D m d->n<=67108864->m<=67108864->q=0->Calls prog 102 #[.agg #[.bool b,.slice A n c],.agg #[.bool b',.slice D m d]] w (ub w 0 false)
 of:∀(p q:Int) (w:World),T w-> -9223372036854775808<=p->p<=9223372036854775807-> -9223372036854775808<=q->q<=9223372036854775807->q≠0->Calls prog 53 #[.int .i64 p,.int .i64 q] w (ub w (Rat.divInt p q) true)
 ofNo:∀(p q:Int) (w:World),T w-> -9223372036854775808<=p->p<=9223372036854775807->q=0->Calls prog 53 #[.int .i64 p,.int .i64 q] w (ub w 0 false)
 num:∀(r:Rat) (b:Bool) (A:ze) (n c:Nat) (E:ze) (k f:Nat) (w:World),T w->zo w r b A n c E k f->zY n k->Calls prog 55 #[.agg #[.bool b,.slice A n c,.slice E k f]] w (wl w r.num)
 den:∀(r:Rat) (b:Bool) (A:ze) (n c:Nat) (E:ze) (k f:Nat) (w:World),T w->zo w r b A n c E k f->zY n k->Calls prog 57 #[.agg #[.bool b,.slice A n c,.slice E k f]] w (ic w r.den)
 sign:∀(r:Rat) (b:Bool) (A:ze) (n c:Nat) (E:ze) (k f:Nat) (w:World),T w->zo w r b A n c E k f->zY n k->Calls prog 60 #[.agg #[.bool b,.slice A n c,.slice E k f]] w (vU w (so r))
 zero:∀(r:Rat) (b:Bool) (A:ze) (n c:Nat) (E:ze) (k f:Nat) (w:World),T w->zo w r b A n c E k f->zY n k->Calls prog 20 #[.agg #[.bool b,.slice A n c,.slice E k f]] w λe w'=>e=.returned (.bool (decide (r=0)))/\Below w.heap.size w w'
 isInt:∀(r:Rat) (b:Bool) (A:ze) (n c:Nat) (E:ze) (k f:Nat) (w:World),T w->zo w r b A n c E k f->zY n k->Calls prog 93 #[.agg #[.bool b,.slice A n c,.slice E k f]] w λe w'=>e=.returned (.bool (decide (r.den=1)))/\Below w.heap.size w w'
 neg:∀(r:Rat) (b:Bool) (A:ze) (n c:Nat) (E:ze) (k f:Nat) (w:World),T w->zo w r b A n c E k f->zY n k->Calls prog 23 #[.agg #[.bool b,.slice A n c,.slice E k f]] w (yj w (-r))
 inv:∀(r:Rat) (b:Bool) (A:ze) (n c:Nat) (E:ze) (k f:Nat) (w:World),T w->zo w r b A n c E k f->zY n k->r≠0->Calls prog 61 #[.agg #[.bool b,.slice A n c,.slice E k f]] w (ub w r⁻¹ true)
 invNo:∀(r:Rat) (b:Bool) (A:ze) (n c:Nat) (E:ze) (k f:Nat) (w:World),T w->zo w r b A n c E k f->zY n k->r=0->Calls prog 61 #[.agg #[.bool b,.slice A n c,.slice E k f]] w (ub w 0 false)
 add:∀(r s:Rat) (b b':Bool) (A A':ze) (n n' c c':Nat) (E E':ze) (k k' f f':Nat) (w:World),T w->zo w r b A n c E k f->zo w s b' A' n' c' E' k' f'->zY n k->zY n' k'->Calls prog 64 #[.agg #[.bool b,.slice A n c,.slice E k f],.agg #[.bool b',.slice A' n' c',.slice E' k' f']] w (yj w (r+s))
 sub:∀(r s:Rat) (b b':Bool) (A A':ze) (n n' c c':Nat) (E E':ze) (k k' f f':Nat) (w:World),T w->zo w r b A n c E k f->zo w s b' A' n' c' E' k' f'->zY n k->zY n' k'->Calls prog 115 #[.agg #[.bool b,.slice A n c,.slice E k f],.agg #[.bool b',.slice A' n' c',.slice E' k' f']] w (yj w (r - s))
 cmp:∀(r s:Rat) (b b':Bool) (A A':ze) (n n' c c':Nat) (E E':ze) (k k' f f':Nat) (w:World),T w->zo w r b A n c E k f->zo w s b' A' n' c' E' k' f'->zY n k->zY n' k'->Calls prog 100 #[.agg #[.bool b,.slice A n c,.slice E k f],.agg #[.bool b',.slice A' n' c',.slice E' k' f']] w (vU w (uW r s))
 same:∀(r s:Rat) (b b':Bool) (A A':ze) (n n' c c':Nat) (E E':ze) (k k' f f':Nat) (w:World),T w->zo w r b A n c E k f->zo w s b' A' n' c' E' k' f'->zY n k->zY n' k'->Calls prog 33 #[.agg #[.bool b,.slice A n c,.slice E k f],.agg #[.bool b',.slice A' n' c',.slice E' k' f']] w λe w'=>e=.returned (.bool (decide (r=s)))/\Below w.heap.size w w'
set_option maxRecDepth 100000
theorem mM (x y:Nat)(A D:ze)(n m c d:Nat)(w:World)(hA:zq w x A n c)(hD:zq w y D m d)(hn:n<=549755813888)(hm:m<=549755813888):
  Calls prog 144 #[.agg #[.slice A n c],.agg #[.slice D m d]] w (xz w (x+y)):=by
 obtain⟨i0,ae,am,an,ao⟩:=info_parts nF;have aj:=zb hA.len;have ai:=zb hD.len;have HA:=zk w (λw' hb=>hA.below hb);have HD:=zk w (λw' hb=>hD.below hb);obtain⟨N,hN⟩:∃N,max n m=N:=⟨_,rfl⟩;have hN1:n<=N:=za;have hN2:m<=N:=za;have hN3:N<=549755813888:=za;obtain⟨Z,hZ⟩:∃Z,madeCells (Value.cells (.int .u64 0)) ((N+1)*i0.size)=Z:=⟨_,rfl⟩;have HZ:zd (Z.size=N+1):=by show _=_;rw [<-hZ,size_madeCells,an,xO]
 have ak:∀W:World,(Instr.makeSlice 46 (.int .i64 ((N:Int)+1)) (.int .i64 ((N:Int)+1))).run prog W=.ok (.slice (some ⟨W.heap.size,0,none⟩) (N+1) (N+1)) (W.alloc (.cells Z 133)):=λW=>by
  rw [<-hZ];exact oN _ _ i0 _ underlying46 ae am _ _ (N+1) (N+1) (qX _) (by rw [ao];omega) za W
 have al:IntKind.i64.wrap ((N:Int)+1)=(N:Int)+1:=QL _ za;have O:(if (n:Int)<(m:Int) then(m:Int) else(n:Int))=(N:Int):=by split<;>omega
 have P:(if n<m then(m:Int) else(n:Int))=(N:Int):=by split<;>omega
 have Q:(if (m:Int)>(n:Int) then(m:Int) else(n:Int))=(N:Int):=by split<;>omega
 clear hZ hA hD hN;go_enter func144,ntmps144;go_wp2_with fail;generalize hW:((w.alloc (.cells #[.slice A n c] 48)).alloc (.cells #[.slice D m d] 48)).alloc (.cells #[.slice none 0 0] 48)=W0;obtain⟨b1,b2,b3,b4,b5⟩:=xd w 48 48 48 #[.slice A n c] #[.slice D m d] #[.slice none 0 0];rw [hW] at b1 b2 b3 b4 b5;have g1:W0.cell? ⟨w.heap.size,0,none⟩=some (.slice A n c):=b2.cell 0;have g2:W0.cell? ⟨w.heap.size+1,0,none⟩=some (.slice D m d):=b3.cell 0;clear hW b2 b3;have t:=b1.drew;have z:=b4.drew
 go_region_held3 (fun w' => Below w.heap.size w w' ∧ w'.cell? ⟨w.heap.size,0,none⟩ = some (.slice A n c) ∧ w'.cell? ⟨w.heap.size + 1,0,none⟩ = some (.slice D m d) ∧ zh w' (w.heap.size + 1 + 1) 48 #[.slice none 0 0])
  (first|(exact⟨t,g1,g2,z⟩)|(go_split_ands;(repeat' apply And.intro);all_goals (first|exact zm|exact zc zm hb|exact zw hb zm|exact zg hb zm|exact xu _ zm|exact xF _ zm|exact zh.alloc zm _|exact zQ _ (by simp;omega) zm|exact yk _ (by simp;omega) zm|exact zh.far zm (by simp;omega) _)))
  (first
    |(go_at_call 104;refine(ud x _ _ _ _).mono ?_;rintro e w' ⟨rfl,hb⟩))
 rename_i w1 hb1 hH
 obtain⟨hB,g1,g2,hk⟩:=hH;have hgs:w.heap.size+3<=w'.heap.size:=by
  have h1:=hb1.size;have h2:=hb.size;have h3:W0.drew.heap.size=W0.heap.size:=rfl;omega
 have K:=zh.new w' 133 Z;generalize w'.alloc (.cells Z 133)=W1 at*;generalize w'.heap.size=gs at*;clear ak O P Q hb hb1 t z b1 b4 b5 al;go_wp2_with fail
 go_loopg [6,7,17] (N + 2) (fun g v _ i wr => ∃ (k cc : Nat) (cs : Array Value) (out : List Nat),k ≤ N + 1 ∧ N + 1 < g + k ∧ i = .int .i64 k ∧ v = .int .u64 cc ∧ vG x y k out cc ∧ cs.size = N + 1 ∧ cs.toList.take k = zH .u64 out ∧ zh wr gs 133 cs ∧
   Below w.heap.size w wr/\wr.cell? ⟨w.heap.size,0,none⟩=some (.slice A n c)/\wr.cell? ⟨w.heap.size+1,0,none⟩=some (.slice D m d)/\zh wr (w.heap.size+1+1) 48 #[.slice none 0 0])
 case atStart=>exact⟨0,0,Z,[],za,za,rfl,rfl,vG.start x y,HZ.o,rfl,K,hB,g1,g2,hk⟩
 case round=>
  clear hB g1 g2 hk K;obtain⟨k,cc,cs,out,hk,hg,rfl,rfl,j,hsz,F,C,hB,g1,g2,B⟩:=hrel;have M:=j.carry;by_cases hlt:k<N+1
  ·have E:=j.step (s:=wd x k+wd y k+cc) rfl;have aa:=wU x k;have ab:=wU y k;have WX:=zk w (λw' h=>kv x A n c k w' (HA.o w' h));have WY:=zk w (λw' h=>kv y D m d k w' (HD.o w' h));obtain⟨a,ha⟩:∃a,wd x k=a:=⟨_,rfl⟩;obtain⟨b,hb⟩:∃a,wd y k=a:=⟨_,rfl⟩;rw [ha] at WX aa E;rw [hb] at WY ab E;have WA:∀w',Calls prog 153 #[.int .u64 a,.int .u64 b,.int .u64 cc] w' λe U=>e=.returned (.tuple #[.int .u64 (((a+b+cc)%18446744073709551616:Nat):Int),.int .u64 (((a+b+cc) / 18446744073709551616:Nat):Int)])/\w'=U:=λw'=>by
    rw [<-VW M,<-VV M];exact UV a b cc ⟨za,za⟩ ⟨za,za⟩ ⟨za,za⟩ w'
   have H:=zb E;have I:=zb hsz;have V:=zb F;obtain⟨s1,e1⟩:∃s1,(a+b+cc)%18446744073709551616=s1:=⟨_,rfl⟩;obtain⟨s2,e2⟩:∃s2,(a+b+cc) / 18446744073709551616=s2:=⟨_,rfl⟩;rw [e1,e2] at WA H;have X:=zb WA;obtain⟨u,hu⟩:∃u,cs[k]?=some u:=⟨cs[k]' za,QU za⟩;have HU:=zb hu;clear WA E ha hb e1 e2 j F hu hsz;have i1:(0:Int)<=(k:Int):=za;have i2:(k:Int)<(N:Int)+1:=za;go_wp2_with fail;have t:=hB.drew;have z:=B.drew;have ac:=C.drew
   go_region_held3 (λw'=>Below w.heap.size w w'/\w'.cell? ⟨w.heap.size,0,none⟩=some (.slice A n c)/\w'.cell? ⟨w.heap.size+1,0,none⟩=some (.slice D m d)/\zh w' (w.heap.size+1+1) 48 #[.slice none 0 0])
   (first | (exact ⟨t,g1,g2,z⟩) | (go_split_ands; (repeat' apply And.intro); all_goals (first | exact zm | exact zc zm hb | exact zw hb zm | exact zg hb zm | exact xu _ zm | exact xF _ zm | exact zh.alloc zm _ | exact zQ _ (by simp; omega) zm | exact yk _ (by simp; omega) zm | exact zh.far zm (by simp; omega) _)))
     (first
       |(go_at_call 126;with_reducible refine(WX.o _ (by first|exact zm|exact YI zm)).mono ?_;rintro e w' ⟨rfl,hb⟩;have o:zh w' gs 133 cs:=zg hb zm;have q1:=(o.cell k).trans HU.o;have q2:=o.frozen k)
       |(go_at_call 126;with_reducible refine(WY.o _ (by first|exact zm|exact YI zm)).mono ?_;rintro e w' ⟨rfl,hb⟩;have o:zh w' gs 133 cs:=zg hb zm;have q1:=(o.cell k).trans HU.o;have q2:=o.frozen k)
       |(go_at_call 153;with_reducible refine(X.o _).mono ?_;rintro e U ⟨rfl,rfl⟩))
   rename_i hH
   obtain⟨Y,g3,g4,af⟩:=hH;have ag:=o.set_ k (.int .u64 s1);clear hb o q1 q2 t z ac hB g1 g2 B C;go_wp2;go_roundg (N+1 - k)
   case measure=>omega
   case rel=>exact⟨k+1,s2,_,_,za,za,by go_num,rfl,H.o,by simpa using I.o,by rw [Yb _ _ _ (by have:=I.o;omega),V.o,eG],ag,Y,g3,g4,af⟩
  ·have ah:k=N+1:=za;subst ah;have e:=j.done (by have:=aj.o;omega) (by have:=ai.o;omega);have R:out.length=N+1:=j.len;have T:=eN (some ⟨gs,0,none⟩) (N+1) (N+1) wr.heap.size out wr (iL C hsz F R) j.dgs (qX _) za za;rw [e] at T;have HT:=zb T;have ad:wr.cell? ⟨w.heap.size+1+1,0,none⟩=some (.slice none 0 0):=B.cell 0;have hf1:=B.frozen 0;clear T C hsz F j e R B g1 g2;go_wp2_with fail;refine HT.o.mono ?_;rintro e w2 ⟨A1,c1,rfl,S,h1,h2,J,rfl⟩;have G:=bC hB (p:=w.heap.size+1+1) (gs:=gs) za za S h1 h2 J za (.slice A1 (dg 18446744073709551616 (x+y)).length c1);have HG:zd (xz w (x+y) (.returned (.agg #[.slice A1 (dg 18446744073709551616 (x+y)).length c1])) (wr.setCell ⟨w.heap.size+1+1,0,none⟩ (.slice A1 (dg 18446744073709551616 (x+y)).length c1))):=⟨_,_,_,rfl,G.2.1,G.1,G.2.2⟩;clear G S h1 h2 J;obtain⟨L,hL⟩:∃L,(dg 18446744073709551616 (x+y)).length=L:=⟨_,rfl⟩;rw [hL] at HG⊢;clear hL;go_wp2;refine bodyPost_ret (v:=.agg #[.slice A1 L c1]) (by simp [results,results144,go_sem,ad]) rfl ?_;exact HG.o
theorem R2 (x y:Nat)(A D:ze)(n m c d:Nat)(w:World)(hA:zq w x A n c)(hD:zq w y D m d)(hn:n<=549755813888)(hm:m<=549755813888)(a:x<y):
  Calls prog 145 #[.agg #[.slice A n c],.agg #[.slice D m d]] w (gl w 0 false):=by
 have CC:=zk w (λw' hb=>jW x y A D n m c d w' (hA.below hb) (hD.below hb) za za);rw [kE a] at CC;clear hA hD a;go_enter func145,ntmps145;go_wp2_with fail;generalize hW:((w.alloc (.cells #[.slice A n c] 48)).alloc (.cells #[.slice D m d] 48)).alloc (.cells #[.slice none 0 0] 48)=W0;obtain⟨b1,b2,b3,b4,b5⟩:=xd w 48 48 48 #[.slice A n c] #[.slice D m d] #[.slice none 0 0];rw [hW] at b1 b2 b3 b4 b5;clear hW b2 b3;refine(CC.o _ b1).mono ?_;rintro e w1 ⟨rfl,hb⟩;have hB:=zc b1 hb;have hk:=zg hb b4;have g:w1.cell? ⟨w.heap.size+1+1,0,none⟩=some (.slice none 0 0):=hk.cell 0;have hf1:=hk.frozen 0;have HG:zd (gl w 0 false (.returned (.tuple #[.agg #[.slice none 0 0],.bool false])) (w1.setCell ⟨w.heap.size+1+1,0,none⟩ (.slice none 0 0))):=⟨_,_,_,rfl,ZE _,zQ _ (by show _<=w.heap.size+1+1;omega) hB,sC.none_ _⟩;clear hB hk hb b1 b4;go_wp2;refine bodyPost_ret (v:=.tuple #[.agg #[.slice none 0 0],.bool false]) (by simp [results,results145,go_sem,g]) rfl ?_;exact HG.o
theorem Tw (x y:Nat)(A D:ze)(n m c d:Nat)(w:World)(hA:zq w x A n c)(hD:zq w y D m d)(hn:n<=549755813888)(hm:m<=549755813888)(F:y<=x):
  Calls prog 145 #[.agg #[.slice A n c],.agg #[.slice D m d]] w (gl w (x - y) true):=by
 obtain⟨i0,ai,aq,ar,au⟩:=info_parts nF;have am:=zb hA.len;have HA:=zk w (λw' hb=>hA.below hb);have HD:=zk w (λw' hb=>hD.below hb);have X:=zb F;have E:=nU F;have CC:=(λw' (hb:Below w.heap.size w w')=>jW x y A D n m c d w' (hA.below hb) (hD.below hb) za za);obtain⟨z,hz⟩:∃z,wf x y=z:=⟨_,rfl⟩;rw [hz] at CC E;have HC:=zb CC;have hzl:¬ z<0:=za;have hzd:decide (z<0)=false:=by simpa using E
 obtain⟨Z,hZ⟩:∃Z,madeCells (Value.cells (.int .u64 0)) (n*i0.size)=Z:=⟨_,rfl⟩;have HZ:zd (Z.size=n):=by show _=_;rw [<-hZ,size_madeCells,ar,xO]
 have an:∀W:World,(Instr.makeSlice 46 (.int .i64 (n:Int)) (.int .i64 (n:Int))).run prog W=.ok (.slice (some ⟨W.heap.size,0,none⟩) n n) (W.alloc (.cells Z 133)):=λW=>by
  rw [<-hZ];exact oN _ _ i0 _ underlying46 ai aq _ _ n n (qX _) (by rw [au];omega) za W
 clear hZ hA hD F CC hz;go_enter func145,ntmps145;go_wp2_with fail;generalize hW:((w.alloc (.cells #[.slice A n c] 48)).alloc (.cells #[.slice D m d] 48)).alloc (.cells #[.slice none 0 0] 48)=W0;obtain⟨b1,b2,b3,b4,b5⟩:=xd w 48 48 48 #[.slice A n c] #[.slice D m d] #[.slice none 0 0];rw [hW] at b1 b2 b3 b4 b5;have g1:W0.cell? ⟨w.heap.size,0,none⟩=some (.slice A n c):=b2.cell 0;have g2:W0.cell? ⟨w.heap.size+1,0,none⟩=some (.slice D m d):=b3.cell 0;clear hW b2 b3;refine(HC.o _ b1).mono ?_;rintro e w1 ⟨rfl,hb⟩;have hB:=zc b1 hb;have hk:=zg hb b4;have g3:=zw hb g1;have g4:=zw hb g2;have ao:=hb.size;clear hb g1 g2 b1 b4;go_wp2_with fail;refine(ud x _ _ _ _).mono ?_;rintro e w2 ⟨rfl,hb⟩;have hB:=zc hB hb;have hk:=zg hb hk;have g1:=zw hb g3;have g2:=zw hb g4;have ap:=hb.size;have hgs:w.heap.size+3<=w2.heap.size:=za;clear hb g3 g4 ao ap b5;go_wp2_with fail;have K:=zh.new w2 133 Z;have hB:=xu (.cells Z 133) hB;have hk:=hk.alloc (.cells Z 133);have g1:=xF (.cells Z 133) g1;have g2:=xF (.cells Z 133) g2;generalize w2.alloc (.cells Z 133)=W1 at*;generalize w2.heap.size=gs at*;clear an
 go_loopg [7,8,19] (n + 1) (fun g v _ i wr => ∃ (k cc : Nat) (cs : Array Value) (out : List Nat),k ≤ n ∧ n < g + k ∧ i = .int .i64 k ∧ v = .int .u64 cc ∧ vJ x y k out cc ∧ cs.size = n ∧ cs.toList.take k = zH .u64 out ∧ zh wr gs 133 cs ∧
   Below w.heap.size w wr/\wr.cell? ⟨w.heap.size,0,none⟩=some (.slice A n c)/\wr.cell? ⟨w.heap.size+1,0,none⟩=some (.slice D m d)/\zh wr (w.heap.size+1+1) 48 #[.slice none 0 0])
 case atStart=>exact⟨0,0,Z,[],za,za,rfl,rfl,vJ.start x y,HZ.o,rfl,K,hB,g1,g2,hk⟩
 case round=>
  clear hB g1 g2 hk K;obtain⟨k,cc,cs,out,hk,hg,rfl,rfl,j,hsz,C,s,hB,g1,g2,o⟩:=hrel;have ah:=j.lack;by_cases hlt:k<n
  ·have B:=λd c'=>j.step (d:=d) (c':=c');have M:=wU x k;have N:=wU y k;have J:=(HA.o wr hB).1;obtain⟨ad,rfl,O,hx⟩:=sy J hlt;have hadw:ad.block<w.heap.size:=by
    obtain⟨ad',e,ae,_⟩:=(HA.o w (qZ _ _)).1.2 za;cases e;exact ae
   rw [nD] at hx;have WY:=zk w (λw' h=>kv y D m d k w' (HD.o w' h));obtain⟨a,ha⟩:∃a,wd x k=a:=⟨_,rfl⟩;obtain⟨b,hb⟩:∃a,wd y k=a:=⟨_,rfl⟩;rw [ha] at hx M B;rw [hb] at WY N B;obtain⟨s1,s2,e1,e2,e3,e4,e5⟩:=Yp M N ah;have WA:∀w',Calls prog 154 #[.int .u64 a,.int .u64 b,.int .u64 cc] w' λe V=>e=.returned (.tuple #[.int .u64 (s1:Int),.int .u64 (s2:Int)])/\w'=V:=λw'=>by
    rw [<-e1,<-e2];exact UW a b cc ⟨za,za⟩ ⟨za,za⟩ ⟨za,za⟩ w'
   have Y:=zb (B s1 s2 e3 e4 e5);have H:=zb hsz;have aa:=zb C;have ab:=zb WA;obtain⟨u,hu⟩:∃u,cs[k]?=some u:=⟨cs[k]' za,QU za⟩;have HU:=zb hu;clear WA B ha hb e1 e2 e3 e4 e5 j C hu hsz J O;have i1:(0:Int)<=(k:Int):=za;have i2:(k:Int)<(n:Int):=za;go_wp2_with fail;have P:=hB.drew;have Q:=o.drew;have af:=s.drew;have U:wr.drew.cell? (ad.add k)=some (.int .u64 a):=hx
   go_region_held3 (fun w' => Below w.heap.size w w' ∧ w'.cell? ⟨w.heap.size,0,none⟩ = some (.slice (some ad) n c) ∧ w'.cell? ⟨w.heap.size + 1,0,none⟩ = some (.slice D m d) ∧ zh w' (w.heap.size + 1 + 1) 48 #[.slice none 0 0] ∧ w'.cell? (ad.add k) = some (.int .u64 a))
    (first|(exact⟨P,g1,g2,Q,U⟩)|(go_split_ands;(repeat' apply And.intro);all_goals (first|exact zm|exact zc zm hb|exact zw hb zm|exact zg hb zm|exact xu _ zm|exact xF _ zm|exact zh.alloc zm _|exact zQ _ (by simp;omega) zm|exact yk _ (by simp;omega) zm|exact yk _ (by rw [y4];simp;omega) zm|exact zh.far zm (by simp;omega) _)))
    (first
      |(go_at_call 126;with_reducible refine(WY.o _ (by first|exact zm|exact YI zm)).mono ?_;rintro e w' ⟨rfl,hb⟩;have t:zh w' gs 133 cs:=zg hb zm;have q1:=(t.cell k).trans HU.o;have q2:=t.frozen k)
      |(go_at_call 154;with_reducible refine(ab.o _).mono ?_;rintro e V ⟨rfl,rfl⟩))
   rename_i hH
   obtain⟨ac,g3,g4,aj,_⟩:=hH;have ak:=t.set_ k (.int .u64 s1);clear hb t q1 q2 P Q af hB g1 g2 o s hx U;go_wp2;go_roundg (n - k)
   case measure=>omega
   case rel=>exact⟨k+1,s2,_,_,za,za,by go_num,rfl,Y.o,by simpa using H.o,by rw [Yb _ _ _ (by have:=H.o;omega),aa.o,eG],ak,ac,g3,g4,aj⟩
  ·have al:k=n:=za;subst al;have e:=j.done X.o (by have:=am.o;omega);have R:out.length=k:=j.len;have T:=eN (some ⟨gs,0,none⟩) k k wr.heap.size out wr (iL s hsz C R) j.dgs (qX _) za za;rw [e] at T;have HT:=zb T;have ag:wr.cell? ⟨w.heap.size+1+1,0,none⟩=some (.slice none 0 0):=o.cell 0;have hf1:=o.frozen 0;clear T s hsz C j e R o g1 g2;go_wp2_with fail;refine HT.o.mono ?_;rintro e w2 ⟨A1,c1,rfl,S,h1,h2,I,rfl⟩;have G:=bC hB (p:=w.heap.size+1+1) (gs:=gs) za za S h1 h2 I za (.slice A1 (dg 18446744073709551616 (x - y)).length c1);have HG:zd (gl w (x - y) true (.returned (.tuple #[.agg #[.slice A1 (dg 18446744073709551616 (x - y)).length c1],.bool true])) (wr.setCell ⟨w.heap.size+1+1,0,none⟩ (.slice A1 (dg 18446744073709551616 (x - y)).length c1))):=⟨_,_,_,rfl,G.2.1,G.1,G.2.2⟩;clear G S h1 h2 I;obtain⟨L,hL⟩:∃L,(dg 18446744073709551616 (x - y)).length=L:=⟨_,rfl⟩;rw [hL] at HG⊢;clear hL;go_wp2;refine bodyPost_ret (v:=.tuple #[.agg #[.slice A1 L c1],.bool true]) (by simp [results,results145,go_sem,ag]) rfl ?_;exact HG.o
def PM (I:Nat->World->Prop)(k:Nat)(W:World):Exit->Act->World->Prop:=λe _ W'=>e=.normal/\KeepsOthers W W'/\I k W'
def WP (P:Program)(gf:Nat)(lb:Array Value)(enc:Nat->Array Value)(N:Nat)(I:Nat->World->Prop):Prop:=
 ∀ (l : Nat) (J : Nat → World → Prop) (W : World),(∀ k W,J k W → I k W) →
  (∀k W,k<N->J (k+1) W->YieldAt Fence.wide 1 P l (enc k) W λe W'=>e=.returned (.bool true)/\J k W')->
  J N W->CallsIn Fence.wide 2 P gf (#[.func (.yield l) #[] #[]]++lb) W λe W'=>(∃v,e=.returned v)/\J 0 W'
theorem gi {I:Nat->World->Prop}{b:Nat}{o:Obj}(hI:∀k,OwnFrom w.heap.size (fun(_:Unit) W=>I k W))(h:I k W)(hb:w.heap.size<=b)(ho:W.heap[b]?=some o)(hc:o.isCells=false)(o':Obj):I k (W.putObj b o'):=
 (hI k).putObj (s:=()) o' h hb ho hc
theorem WQ {P:Program}{g:Operand}{ps:Array Tmp}{assign body:Code}{Q:Exit->Act->World->Prop}{gf:Nat}{lb:Array Value}(hg:a.eval g=.func (.func gf) #[] lb)
  (eg:∀args w,(callFunc gf args).run P w=.ok (.enter gf args) w) (N:Nat) (i:Nat->Array Value) (y:∀k,(i k).size=ps.size) (I:Nat->World->Prop) (hI:∀k,OwnFrom w.heap.size (fun(_:Unit) W=>I k W)) (h0:I N w)
  (n:WP P gf lb i N I) (a1:Nat->Act)
  (d:∀(l k:Nat) (W:World) (K:Act->World->Prop),K (a1 k) W->assign.wpIn (Fence.wide.inRound l) 1 P (Exit.then K (λ_ _ _=>False)) {tmps:=(ps.zip (i k)).foldl (λt (p,v)=>t.setIfInBounds p v) a.tmps,defers:=[]} W)
  (j:∀(l k:Nat) (W:World),k<N->I (k+1) W->body.wpIn (Fence.wide.inRound l) 1 P (PM I k W) (a1 k) W)
  (m:∀(D:Nat) (W:World),w.heap.size<=D->I 0 W->W.heap[D]?=some (.deferred (some []))->Q .normal {a with defers:={target:=.collected D,args:=#[]}::a.defers} W):
  (Code.rangeFunc g ps assign body).wpIn Fence.wide 3 P Q a w:=by
 refine wpIn_rangeFunc λfn u=>?_;obtain⟨r,hr⟩:∃r:Loop,r={state:=.ready,pending:=none,fn,tmps:=a.tmps,params:=ps,assign,body,defers:=w.heap.size}:=⟨_,rfl⟩;obtain⟨V,hV⟩:∃V,(w.alloc (.deferred (some []))).alloc (.loop r)=V:=⟨_,rfl⟩;have gV:w.grownBy V none:=by rw [<-hV];exact(jQ w _ none).trans (jQ _ _ none)
 have rV:V.heap[w.heap.size+1]?=some (.loop r):=by
  have h:=World.alloc_heap_new (w.alloc (.deferred (some []))) (.loop r);rw [YR,hV] at h;exact h
 have dV:V.heap[w.heap.size]?=some (.deferred (some [])):=by
  have h:=World.alloc_heap_new w (.deferred (some []));rw [<-hV,Below.heap_alloc _ _ _ zF];exact h
 have iV:I N V:=hI N () w V none h0 gV (λ_ e=>by cases e);refine⟨w.heap.size+1,[{target:=.collected w.heap.size,args:=#[]}],V,{target:=.fn (.func gf) lb,args:=#[.func (.yield (w.heap.size+1)) #[] #[]]},V,gf,#[.func (.yield (w.heap.size+1)) #[] #[]]++lb,V,?_,?_,λ_ _=>trivial,?_,λ_=>by omega,?_⟩
 ·rw [<-hV,hr];exact run_enterLoop_outer _ _ _ _ _
 ·simp only [resolve,hg];simp [go_sem]
 ·simp [invoke,go_sem,eg]
 refine(n (w.heap.size+1) (λk W=>I k W/\W.heap[w.heap.size+1]?=some (.loop r)/\W.heap[w.heap.size]?=some (.deferred (some []))) V (λ_ _ h=>h.1) ?_ ⟨iV,rV,dV⟩).mono ?_
 ·rintro k W hk ⟨iW,rW,dW⟩;have hy:=run_yield (P:=P) (args:=i k) rW (by rw [hr];exact y k);have lt:=(Array.getElem?_eq_some_iff.1 rW).1;obtain⟨rb,s⟩:∃rb:Loop,rb={r with state:=.busy}:=⟨_,rfl⟩;have rX:(W.putObj (w.heap.size+1) (.loop rb)).heap[w.heap.size+1]?=some (.loop rb):=World.putObj_heap_same lt;have dX:(W.putObj (w.heap.size+1) (.loop rb)).heap[w.heap.size]?=some (.deferred (some [])):=(World.putObj_heap_other za).trans dW;have iX:I (k+1) (W.putObj (w.heap.size+1) (.loop rb)):=gi hI iW za rW rfl _;rw [hr] at hy;refine⟨fn,_,assign,body,hy,roundIn_of_wpIn u (d _ k W _ ⟨_,by have h:=run_beginRound (P:=P) rW (by rw [hr]);rw [<-s] at h;exact h,?_⟩)⟩;refine wpIn_mono (j _ k _ hk iX) ?_;rintro e a3 W3 ⟨rfl,o,i3⟩;have r3:=o.same _ _ rX rfl;have d3:=o.same _ _ dX rfl;have z:=(Array.getElem?_eq_some_iff.1 r3).1;have he:=run_endRound (P:=P) none r3;refine⟨_,_,he,rfl,gi hI i3 za r3 rfl _,?_,(World.putObj_heap_other za).trans d3⟩;rw [World.putObj_heap_same z,s,hr];rfl
 ·rintro e W2 ⟨⟨v,rfl⟩,i2,r2,d2⟩;have he:=run_endLoop (P:=P) r2 (by rw [hr];simp);rw [show r.pending=none from by rw [hr]] at he;exact⟨none,_,he,m _ _ (qX _) (gi hI i2 za r2 rfl _) ((World.putObj_heap_other za).trans d2)⟩
attribute [local go_sem] Oper.semAt_some
theorem Xr (Bs len cap:Nat)(A:ze)(v:Nat->Nat)(I:Nat->World->Prop)(hlen:len<=1099511627776)
  (d:∀k W,I k W->W.cell? ⟨Bs,0,none⟩=some (.slice A len cap)) (g:∀k W,k<len->I (k+1) W->∃ad,A=some ad/\W.cell? (ad.add k)=some (.int .u64 (v k:Int))):
  WP prog 168 #[.pointer (some ⟨Bs,0,none⟩)] (λk=>#[.int .i64 (k:Int),.int .u64 (v k:Int)]) len I:=by
 intro l J W hJ hY h0;have m:=d _ _ (hJ _ _ h0);have HB:=zb (λk W (h:J k W)=>d k W (hJ k W h));have HC:=zb (λk W (hk:k<len) (h:J (k+1) W)=>g k W hk (hJ _ _ h));have HY:=zb hY;have H0:=zb h0;have n:IntKind.i64.wrap ((len:Int) - 1)=(len:Int) - 1:=by rw [IntKind.wrap_i64];omega
 clear hJ hY h0 d g;refine callsIn_of_wp func168 rfl trivial ?_ rfl;simp only [ntmps168,XG,xK,YM,Nat.reduceAdd,Nat.reduceSub,YT,YW,List.push_toArray,jX,XM,YP]
 gi_wp2
 clear m n
 gi_loopw [3] (λi wr=>∃k:Nat,k<=len/\i=.int .i64 ((k:Int) - 1)/\J k wr) (λi _=>(intOf i+1).toNat)
 case atStart=>exact⟨len,qX _,rfl,H0.o⟩
 case round=>
  obtain⟨k,hk,rfl,a⟩:=hrel;have hb:=HB.out _ _ a;rcases k with _|k
  ·rw [show((0:Nat):Int) - 1= -1 from by decide];clear hb
   gi_wp2
   go_end0
   exact⟨⟨_,rfl⟩,a⟩
  ·obtain⟨ad,rfl,hc⟩:=HC.o k wr hk a;obtain⟨fn,tmps,assign,body,hy,hR⟩:=HY.o k wr hk a;rw [show((k+1:Nat):Int) - 1=(k:Int) from by omega];have i1:(0:Int)<=(k:Int):=za;have i2:(k:Int)<(len:Int):=za;have i3:IntKind.i64.wrap ((k:Int) - 1)=(k:Int) - 1:=by rw [IntKind.wrap_i64];omega
   obtain⟨z,hz⟩:∃z,v k=z:=⟨_,rfl⟩
   try dsimp only at hy
   rw [hz] at hc hy;clear hz a
   gi_wp2
   refine hR.mono ?_;rintro e W3 ⟨rfl,j⟩
   gi_wp2
   go_roundw
   case rel=>exact⟨k,za,rfl,j⟩
   case measure=>simp [intOf]
theorem Zj (A:ze)(len cap:Nat)(w:World):
  Calls prog 161 #[.slice A len cap] w λe w'=>e=.returned (.func (.func 168) #[] #[.pointer (some ⟨w.heap.size,0,none⟩)])/\w.alloc (.cells #[.slice A len cap] 46)=w':=by
 go_enter func161,ntmps161;go_wp2;go_ret;exact⟨rfl,rfl⟩
section
variable {P:Program}{md:Region.Mode}{ops:Array Oper}{Q:Exit->Act->World->Prop}{l n:Nat}
theorem Rz {f:FuncId}{args:Array Value}{R R':Ending->World->Prop}(h:Calls P f args w R)(hr:∀e w,R e w->R' e w):CallsIn (Fence.wide.inRound l) n P f args w R':=
 CallsIn.inRound l (callsIn_wide.2 (h.mono hr))
theorem Pa {row:String}{args:Array Value}{R R':Value->World->Prop}(h:Rows P row args w R)(hr:∀e w,R e w->R' e w):RowsIn (Fence.wide.inRound l) n P row args w R':=
 λc cs _=>let ⟨v,w',r,s⟩:=h c cs;⟨v,w',hr _ _ r,stepsIn_wide.2 s⟩
theorem pX {o:Oper}{K K':Act->World->Prop}(hd:∀c,o.op≠.defer c)(hK:∀a w,K a w->K' a w)(h:o.wp P a w K Q):o.wpIn (Fence.wide.inRound l) n P a w K' Q:=by
 refine⟨λ_ _=>trivial,?_⟩;rw [Oper.semAt_eq _ _ _ hd];unfold Oper.wp at h;generalize (execOp a.eval o).run P w=r at h⊢;cases r with
 |ok x w'=>
   cases x <;> simp only [Oper.upon,Oper.uponIn] at h ⊢ <;>
    first
     |exact hK _ _ h
     |exact⟨λe=>by simp [Fence.wide] at e,Rz h (λe w'' he=>by cases e<;>first|exact hK _ _ he|exact he)⟩
     |exact⟨λe=>by simp [Fence.wide] at e,Pa h (λ_ _ he=>hK _ _ he)⟩
     |exact h.elim
 |halt x w'=>cases x<;>simp only [Oper.upon,Oper.uponIn] at h⊢<;>exact h
theorem cX (hd:∀(i:Nat) (o:Oper),ops[i]?=some o->∀c,o.op≠.defer c)(hQ:¬ LetsOut Q):∀(d:Nat) (g:Array Bool) (a:Act) (w:World),wpAny P md ops Q d g a w->wpAnyIn (Fence.wide.inRound l) n P md ops Q d g a w
 |0,_,_,_,h=>h
 |d+1,g,a,w,h=>by
   refine⟨h.1,λi hi=>?_⟩;have h2:=h.2 i hi;unfold wpOp at h2;unfold wpOpIn;cases ho:ops[i]? with
   |none=>rw [ho] at h2;exact cX hd hQ d _ _ _ h2
   |some o=>
     rw [ho] at h2;simp only at h2⊢
     split
     ·rename_i hw
      rw [if_pos hw] at h2;rcases h2 with h2|h2
      ·exact pX (hd i o ho) (cX hd hQ d _) h2
      ·exact absurd h2.2 hQ
     ·rename_i hw
      rw [if_neg hw] at h2;exact⟨λ_ _=>trivial,cX hd hQ d _ _ _ h2⟩
def Tx (ops:Array Oper):Bool:=ops.all λo=>match o.op with|.defer _=>false|_=>true
theorem Ss (h:Tx ops=true)(i:Nat)(o:Oper)(ho:ops[i]?=some o)(c:Call):o.op≠.defer c:=by
 intro e;have h1:=Array.all_eq_true.1 h i (Array.getElem?_eq_some_iff.1 ho).1;rw [(Array.getElem?_eq_some_iff.1 ho).2,e] at h1;cases h1
theorem WE {id:Nat}{S:World->Prop}(hm:P.follows .mixedOrders=true)(hd:Tx ops=true)(hQ:∀a w,¬ Q .outgrown a w)(hS:S w.drew)
  (h:S w.drew->wpAnyH P .any ops Q S ops.size (Array.replicate ops.size false) a w.drew):(Code.region id ops true).wpIn (Fence.wide.inRound l) n P Q a w:=
 wpIn_region_any hm (cX (Ss hd) (fun⟨a,w,h⟩=>hQ a w h) _ _ _ _ (wpAny_of_held _ _ _ _ (h hS)))
end
theorem uK {b:Nat}{t:TypeId}{cs:Array Value}{row:Option Nat}(h:zh W b t cs)(hg:W.grownBy W' row)(hr:∀r,row=some r->B<=r/\∃o:Obj,W.heap[r]?=some o/\o.isCells=false):zh W' b t cs:=
 h.grown hg (λe=>by
  obtain⟨_,o,ho,hc⟩:=hr b e.symm;rw [show W.heap[b]?=_ from h] at ho;cases ho;cases hc)
theorem cQ {B0:Nat}{row:Option Nat}(h:Below B0 w W)(h0:B0<=w.heap.size)(hB:B0<=B)(hg:W.grownBy W' row)(hr:∀r,row=some r->B<=r/\∃o:Obj,W.heap[r]?=some o/\o.isCells=false):Below B0 w W':=
 h.grown hg (qH h0 h.size) (λr e=>qH hB (hr r e).1)
