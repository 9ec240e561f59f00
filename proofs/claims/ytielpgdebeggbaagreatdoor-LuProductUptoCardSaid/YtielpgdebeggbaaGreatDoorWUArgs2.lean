/- What this claim leans on. -/
import Derived.Test.YtielpgdebeggbaaGreatDoorWBunZ
import Derived.Deep.Matrix
import Derived.Deep.Slices
import Derived.Laws.Concat
set_option linter.unusedVariables false
set_option linter.unusedSimpArgs false
namespace Go.Proofs.YtielpgdebeggbaaGreatDoor
open Go Go.RowKit Go.Proofs.Tryz
open Go.ChangeShapes Go.WideShapes Go.ChangeAt Go.Deep
set_option maxHeartbeats 16000000
namespace UA
set_option maxHeartbeats 16000000
theorem mem_le {H:Type}{d:DataW H}{l:List (DataW H)}(h:d ∈ l):Rows.uptoBulk d<=Rows.uptoBulkAll l:=by
 induction l with
 |nil=>cases h
 |cons x r ih=>
   simp only [Rows.uptoBulkAll];rcases List.mem_cons.1 h with rfl|h
   ·omega
   ·have:=ih h;omega
end UA
open Go Go.RowKit Go.Proofs.Tryz
open Go.ChangeShapes Go.WideShapes Go.ChangeAt Go.Deep
set_option maxHeartbeats 16000000
variable {b:Bool}{L:List (Int×Int)}{c g n x y:Nat}{t t0:TypeId}{W w w':World}{A:ze}
def wO (z:Int):Prop:=-9223372036854775808<=z/\z<=9223372036854775807
theorem Sy {H:Type}{c:TypeId×Value->H}{P:Program}{a:Nat}{f0 f1:Field}{c0 c1:Value}{x:DataW H×List MemPlace}
  (hs:P.underlying t=some (.struct #[f0,f1])) (hf:(f0.offset,P.cellsOf f0.type,f1.offset,P.cellsOf f1.type)=(0,1,1,1)) (h0:P.underlying f0.type=some (.int .i64)) (h1:P.underlying f1.type=some (.int .i64))
  (h:DataW.trod c P W 0 (λ_=>true) true a t [c0,c1]=some x):∃p q:Int,c0=.int .i64 p/\c1=.int .i64 q/\wO p/\wO q:=by
 simp only [Prod.mk.injEq] at hf;obtain⟨y0,y1,n,rfl,_,k0,k1⟩:=trod_struct2 hs h;rw [hf.1,hf.2.1] at k0;rw [hf.2.2.1,hf.2.2.2] at k1;simp only [List.drop_zero,List.take_succ_cons,List.take_zero,List.drop_succ_cons] at k0 k1;obtain⟨p,hp,_,wp⟩:=DataW.trod_int h0 k0;obtain⟨q,hq,_,wq⟩:=DataW.trod_int h1 k1;simp only [List.cons.injEq,and_true] at hp hq;have bp:=bounds_i64 wp;have bq:=bounds_i64 wq;exact⟨p,q,hp,hq,⟨zb,zb⟩,⟨zb,zb⟩⟩
structure vn (W:World)(A:ze)(n c:Nat)(L:List (Int×Int)):Prop where
 len:L.length=n
 fits:n<=c
 small:c<=1048576
 ints:∀q ∈ L,wO q.1/\wO q.2
 row:∀r q,L[r]?=some q->∃ad,A=some ad/\ad.block<W.heap.size/\W.cell? (ad.add (r*2))=some (.int .i64 q.1)/\W.cell? (ad.add (r*2+1))=some (.int .i64 q.2)
theorem vn.below {W':World}(h:vn W A n c L)(hb:Below W.heap.size W W'):vn W' A n c L:=
 ⟨h.len,h.fits,h.small,h.ints,λr q hr=>by
  obtain⟨ad,e,h1,h2,h3⟩:=h.row r q hr;exact⟨ad,e,qJ h1 hb.size,(hb.cell (by rw [yk];exact h1)).trans h2,(hb.cell (by rw [yk];exact h1)).trans h3⟩⟩
theorem tL {H:Type}{y:TypeId×Value->H}{P:Program}{f0 f1:Field}{x:DataW H×List MemPlace}
  (ht:P.underlying t0=some (.slice t)) (hs:P.underlying t=some (.struct #[f0,f1])) (hf:(f0.offset,P.cellsOf f0.type,f1.offset,P.cellsOf f1.type)=(0,1,1,1)) (hC:P.cellsOf t=2) (h0:P.underlying f0.type=some (.int .i64)) (h1:P.underlying f1.type=some (.int .i64))
  (h:DataW.trod y P W 0 (λ_=>true) true g t0 (Value.slice A n c).cells.toList=some x) (hb:Rows.uptoBulk x.1<=1048576):∃L,vn W A n c L:=by
 rcases open_slice ht h with⟨hcs,_⟩|⟨a,len,cap,m,k,D,Pl,hcs,_,hl,hm,hmm,hx,hi⟩
 ·simp [Value.cells] at hcs;obtain⟨rfl,rfl,rfl⟩:=hcs;exact⟨[],rfl,qX _,zb,λq hq=>(by cases hq),λr q hr=>by simp at hr⟩
 ·simp [Value.cells] at hcs;obtain⟨rfl,rfl,rfl⟩:=hcs;rw [if_pos rfl] at hmm;rw [hmm] at hx hi;subst hx;have B:=UA.slice_le (H:=H) ((List.range n).map D) ((List.range (c - n)).map λj=>D (n+j));have hb':Rows.uptoBulk (DataW.slice (H:=H) ((List.range n).map D) ((List.range (c - n)).map λj=>D (n+j)))<=1048576:=hb;have z:c<=1048576:=by
   simp only [QH,XJ] at B;omega
  have d:∀r,r<n->∃q:Int×Int,W.cell? (a.add (r*2))=some (.int .i64 q.1)/\W.cell? (a.add (r*2+1))=some (.int .i64 q.2)/\wO q.1/\wO q.2:=λr hr=>by
   obtain⟨cs,o,C⟩:=hi r zb;rw [hC] at o;obtain⟨_,u,i⟩:=World.cells?_some o;obtain⟨c0,c1,rfl⟩:∃c0 c1,cs=[c0,c1]:=by
    match cs,u with
    |[c0,c1],_=>exact⟨c0,c1,rfl⟩
   obtain⟨p,q,rfl,rfl,hp,hq⟩:=Sy (x:=(D r,Pl r)) hs hf h0 h1 C;have h0:=i 0 zf;have h1:=i 1 zf;rw [Go.Deep.add_add] at h0 h1;exact⟨(p,q),h0,h1,hp,hq⟩
  obtain ⟨f,s⟩ : ∃ f : Nat → Int × Int,∀ r,r < n → W.cell? (a.add (r * 2)) = some (.int .i64 (f r).1) ∧ W.cell? (a.add (r * 2 + 1)) = some (.int .i64 (f r).2) ∧ wO (f r).1 ∧ wO (f r).2 :=
   ⟨λr=>if hr:r<n then(d r hr).choose else(0,0),λr hr=>by simp only [dif_pos hr];exact(d r hr).choose_spec⟩
  refine⟨(List.range n).map f,zA,hl,z,λq hq=>?_,λr q hr=>?_⟩
  ·obtain⟨r,hr,rfl⟩:=List.mem_map.1 hq;exact(s r (List.mem_range.1 hr)).2.2
  ·have v:r<n:=by
    have:=(List.getElem?_eq_some_iff.1 hr).1;simpa using this
   obtain rfl:f r=q:=by
    rw [qN,xL v] at hr;simpa using hr
   obtain⟨c0,c1,_⟩:=s r v;refine⟨a,rfl,?_,c0,c1⟩;have:=QB W _ c0;rw [yk] at this;exact this
theorem Ti {H:Type}{g:TypeId×Value->H}{P:Program}{d:Nat}{f0 f1:Field}{v:Value}{x:DataW H×List MemPlace}
  (ht:P.underlying t0=some (.slice t)) (hs:P.underlying t=some (.struct #[f0,f1])) (hf:(f0.offset,P.cellsOf f0.type,f1.offset,P.cellsOf f1.type)=(0,1,1,1)) (hC:P.cellsOf t=2) (h0:P.underlying f0.type=some (.int .i64)) (h1:P.underlying f1.type=some (.int .i64))
  (h:DataW.trod g P W 0 (λ_=>true) true d t0 [v]=some x) (hb:Rows.uptoBulk x.1<=1048576):∃A n c L,v=.slice A n c/\vn W A n c L:=by
 have go:∀A n c,[v]=[Value.slice A n c]->∃A n c L,v=.slice A n c/\vn W A n c L:=λA n c e=>by
  simp only [List.cons.injEq,and_true] at e;subst e;obtain⟨L,hL⟩:=tL ht hs hf hC h0 h1 (A:=A) (n:=n) (c:=c) (by simpa [Value.cells] using h) hb;exact⟨A,n,c,L,rfl,hL⟩
 rcases open_slice ht h with⟨hcs,_⟩|⟨a,len,cap,m,k,D,Pl,hcs,_⟩
 ·exact go _ _ _ hcs
 ·exact go _ _ _ hcs
structure uB (W:World)(A:ze)(n c:Nat)(R:Nat->ze×Nat×Nat×List (Int×Int)):Prop where
 fits:n<=c
 small:c<=1048576
 row:∀r,r<n->∃ad,A=some ad/\ad.block<W.heap.size/\W.cell? (ad.add r)=some (.slice (R r).1 (R r).2.1 (R r).2.2.1)/\vn W (R r).1 (R r).2.1 (R r).2.2.1 (R r).2.2.2
theorem Tp {H:Type}{s:TypeId×Value->H}{P:Program}{t9:TypeId}{f0 f1:Field}{x:DataW H×List MemPlace}
  (E:P.underlying t9=some (.slice t0)) (u:P.cellsOf t0=1) (ht:P.underlying t0=some (.slice t)) (hs:P.underlying t=some (.struct #[f0,f1])) (hf:(f0.offset,P.cellsOf f0.type,f1.offset,P.cellsOf f1.type)=(0,1,1,1)) (hC:P.cellsOf t=2) (h0:P.underlying f0.type=some (.int .i64)) (h1:P.underlying f1.type=some (.int .i64))
  (h:DataW.trod s P W 0 (λ_=>true) true g t9 (Value.slice A n c).cells.toList=some x) (hb:Rows.uptoBulk x.1<=1048576):∃R,uB W A n c R:=by
 rcases open_slice E h with⟨hcs,_⟩|⟨a,len,cap,m,k,D,Pl,hcs,_,hl,hm,hmm,hx,hi⟩
 ·simp [Value.cells] at hcs;obtain⟨rfl,rfl,rfl⟩:=hcs;exact⟨λ_=>(none,0,0,[]),qX _,zb,λr hr=>by omega⟩
 ·simp [Value.cells] at hcs;obtain⟨rfl,rfl,rfl⟩:=hcs;rw [if_pos rfl] at hmm;rw [hmm] at hx hi;subst hx;have C:=UA.slice_le (H:=H) ((List.range n).map D) ((List.range (c - n)).map λj=>D (n+j));have y:Rows.uptoBulk (DataW.slice (H:=H) ((List.range n).map D) ((List.range (c - n)).map λj=>D (n+j)))<=1048576:=hb;have z:c<=1048576:=by
   simp only [QH,XJ] at C;omega
  have d:∀r,r<n->∃q:ze×Nat×Nat×List (Int×Int),W.cell? (a.add r)=some (.slice q.1 q.2.1 q.2.2.1)/\vn W q.1 q.2.1 q.2.2.1 q.2.2.2:=λr hr=>by
   obtain⟨cs,i,F⟩:=hi r zb;rw [u] at i;obtain⟨_,o,v⟩:=World.cells?_some i;obtain⟨c0,rfl⟩:∃c0,cs=[c0]:=by
    match cs,o with
    |[c0],_=>exact⟨c0,rfl⟩
   have hD:Rows.uptoBulk (D r)<=1048576:=by
    have B:D r ∈(List.range n).map D:=List.mem_map.2 ⟨r,List.mem_range.2 hr,rfl⟩;have hm2:=UA.mem_le B;simp only [Rows.uptoBulk] at y;omega
   obtain⟨A',n',c',L,rfl,hL⟩:=Ti (x:=(D r,Pl r)) ht hs hf hC h0 h1 F hD;have h0:=v 0 zf;rw [Go.Deep.add_add,xV,XD] at h0;exact⟨(A',n',c',L),h0,hL⟩
  refine⟨λr=>if hr:r<n then(d r hr).choose else(none,0,0,[]),hl,z,λr hr=>⟨a,rfl,?_,?_⟩⟩
  ·have:=QB W _ (d r hr).choose_spec.1;rw [yk] at this;exact this
  ·simp only [dif_pos hr];exact(d r hr).choose_spec
theorem vn.take {N:Nat}(h:vn W A n c L)(hN:N<=n):vn W A N c (L.take N):=by
 have hl:=h.len;have hf:=h.fits;refine⟨by rw [qA];omega,zb,h.small,λq hq=>h.ints q (xT hq),λr q hr=>?_⟩;rw [xD] at hr
 split at hr
 ·exact h.row r q hr
 ·cases hr
open Go Go.RowKit Go.Proofs.Tryz
set_option maxHeartbeats 16000000
def sy (w:World)(q r:Nat)(b:Bool)(e:Ending)(w':World):Prop:=∃(A:ze) (n c:Nat) (B:ze) (m d:Nat),e=.returned (.tuple #[.agg #[.slice A n c],.agg #[.slice B m d],.bool b])/\zp w' q A n c/\zp w' r B m d/\Below w.heap.size w w'
def jh (w:World)(x:Nat)(b:Bool)(e:Ending)(w':World):Prop:=∃(A:ze) (n c:Nat),e=.returned (.tuple #[.agg #[.slice A n c],.bool b])/\zp w' x A n c/\Below w.heap.size w w'
def fw (w:World)(q x:Nat)(b:Bool)(e:Ending)(w':World):Prop:=∃(A:ze) (n c:Nat),e=.returned (.tuple #[.agg #[.slice A n c],.int .u64 (x:Int),.bool b])/\zp w' q A n c/\Below w.heap.size w w'
structure iA:Prop where
 divMod:∀(x y:Nat) (A D:ze) (n m c d:Nat) (w:World),zp w x A n c->zp w y D m d->n<=1073741824->m<=1073741824->y≠0->Calls prog 141 #[.agg #[.slice A n c],.agg #[.slice D m d]] w (sy w (x / y) (x%y) true)
 divModNo:∀(x y:Nat) (A D:ze) (n m c d:Nat) (w:World),zp w x A n c->zp w y D m d->n<=1073741824->m<=1073741824->y=0->Calls prog 141 #[.agg #[.slice A n c],.agg #[.slice D m d]] w (sy w 0 0 false)
 div:∀(x y:Nat) (A D:ze) (n m c d:Nat) (w:World),zp w x A n c->zp w y D m d->n<=1073741824->m<=1073741824->y≠0->Calls prog 125 #[.agg #[.slice A n c],.agg #[.slice D m d]] w (jh w (x / y) true)
 mod:∀(x y:Nat) (A D:ze) (n m c d:Nat) (w:World),zp w x A n c->zp w y D m d->n<=1073741824->m<=1073741824->y≠0->Calls prog 147 #[.agg #[.slice A n c],.agg #[.slice D m d]] w (jh w (x%y) true)
 byWord:∀(x a:Nat) (A:ze) (n c:Nat) (w:World),zp w x A n c->n<=1073741824->a<18446744073709551616->a≠0->Calls prog 151 #[.agg #[.slice A n c],.int .u64 a] w (fw w (x / a) (x%a) true)
 byWordNo:∀(x:Nat) (A:ze) (n c:Nat) (w:World),zp w x A n c->n<=1073741824->Calls prog 151 #[.agg #[.slice A n c],.int .u64 0] w (fw w 0 0 false)
open Go Go.RowKit Go.Proofs.Tryz
set_option maxHeartbeats 16000000
def oe (w:World)(x:Nat)(e:Ending)(w':World):Prop:=∃(A:ze) (n c:Nat),e=.returned (.agg #[.slice A n c])/\zp w' x A n c/\Below w.heap.size w w'
def Zu (w:World)(x y:Nat)(e:Ending)(w':World):Prop:=∃(A:ze) (n c:Nat) (B:ze) (m d:Nat),e=.returned (.tuple #[.agg #[.slice A n c],.agg #[.slice B m d]])/\zp w' x A n c/\zp w' y B m d/\Below w.heap.size w w'
theorem Sz.gcd {K K':Nat}(h:Sz K x)(h':Sz K' y):Sz (K+K') (Nat.gcd x y):=by
 rcases xQ x with e|e
 ·rw [e,yT];exact h'.up zb
 ·exact(h.of_le (Nat.gcd_le_left y e)).up zb
structure cQ:Prop where
 of:∀(x y:Nat) (A D:ze) (n m c d:Nat) (w:World),zp w x A n c->zp w y D m d->n<=1073741824->m<=1073741824->zt w->Calls prog 124 #[.agg #[.slice A n c],.agg #[.slice D m d]] w (oe w (Nat.gcd x y))
 reduce:∀(x y:Nat) (A D:ze) (n m c d:Nat) (w:World),zp w x A n c->zp w y D m d->n<=1073741824->m<=1073741824->zt w->Calls prog 95 #[.agg #[.slice A n c],.agg #[.slice D m d]] w (Zu w (x / Nat.gcd x y) (y / Nat.gcd x y))
open Go Go.RowKit Go.Proofs.Tryz
set_option maxHeartbeats 16000000
set_option maxRecDepth 100000
open Go Go.RowKit Go.Proofs.Tryz
set_option maxHeartbeats 16000000
set_option maxRecDepth 100000
open Go Go.RowKit Go.Proofs.Tryz
set_option maxHeartbeats 16000000
theorem va {T:World->Prop}:lR T where
 new s x A n c w _ hA hn:=Sj s x A n c w hA zb
 of z w _ h1 h2:=SG z w h1 h2
 belowI z b A n c w _ hA hn:=Ts z b A n c w hA
 abs z b A n c w _ hA hn:=(TN z b A n c w hA zb).mono λ_ _ ⟨A',n',c',he,hw,hb,_⟩=>⟨A',n',c',he,hw,hb⟩
 sign z b A n c w _ hA hn:=Tx z b A n c w hA
 cmp x y b b' A D n m c d w _ hA hD hn hm:=Sh x y b b' A D n m c d w hA hD zb zb
 add x y b b' A D n m c d w _ hA hD hn hm:=Sg x y b b' A D n m c d w hA hD zb zb
 mul x y b b' A D n m c d w _ hA hD hn hm:=Si x y b b' A D n m c d w hA hD zb zb
open Go Go.RowKit Go.Proofs.Tryz
set_option maxHeartbeats 16000000
set_option maxRecDepth 100000
open Go Go.RowKit Go.Proofs.Tryz
set_option maxHeartbeats 16000000
set_option maxRecDepth 100000
def tf (b x y:Nat)(D:List Nat):Prop:=D++dg b y=dg b x
theorem tf.step {b:Nat}{D:List Nat}(h:tf b x y D)(hb:2<=b)(hy:y≠0):tf b x (y / b) (D++[y%b]):=by
 unfold tf at h⊢;rw [<-h,il hb hy,xX];rfl
open Go Go.RowKit Go.Proofs.Tryz
set_option maxHeartbeats 16000000
set_option maxRecDepth 100000
open Go Go.RowKit Go.Proofs.Tryz
set_option maxHeartbeats 16000000
set_option maxRecDepth 100000
open Go Go.RowKit Go.Proofs.Tryz
set_option maxHeartbeats 16000000
set_option maxRecDepth 100000
theorem cS {q:Nat}(h:q%2≠0):Nat.gcd 2 q=1:=by
 have h1:Nat.gcd 2 q ∣ 2:=yJ 2 q;have h2:=Nat.le_of_dvd zf h1;have h3:Nat.gcd 2 q≠0:=λe=>by rw [e] at h1;exact absurd (Nat.eq_zero_of_zero_dvd h1) zf
 have h4:Nat.gcd 2 q≠2:=λe=>h (Nat.mod_eq_zero_of_dvd (by rw [<-e];exact XI 2 q));omega
theorem aH {p q:Nat}(hp:p%2=0)(hq:q%2≠0):Nat.gcd (p / 2) q=Nat.gcd p q:=by
 have e:p=2*(p / 2):=zb;have h:Nat.Coprime 2 q:=cS hq;rw [show Nat.gcd p q=Nat.gcd (2*(p / 2)) q from by rw [<-e]];exact(h.gcd_mul_left_cancel (p / 2)).symm
theorem rU {p q:Nat}(h:q<=p):Nat.gcd (p - q) q=Nat.gcd p q:=by
 obtain⟨s,rfl⟩:∃s,p=q+s:=⟨p - q,zb⟩;rw [yZ,Nat.gcd_self_add_left]
open Go Go.RowKit Go.Proofs.Tryz
set_option maxHeartbeats 16000000
set_option maxRecDepth 100000
def tj (w:World)(z:Int)(b:Bool)(A:ze)(n c:Nat):Prop:=b=decide (z<0)/\oN w z.natAbs A n c
theorem tj.below {z:Int}(h:tj w z b A n c)(hb:Below w.heap.size w w'):tj w' z b A n c:=⟨h.1,h.2.below hb⟩
open Go Go.RowKit Go.Proofs.Tryz
set_option maxHeartbeats 16000000
set_option maxRecDepth 100000
def ub (w:World)(r:Rat)(b:Bool)(A:ze)(n c:Nat)(E:ze)(k f:Nat):Prop:=tj w r.num b A n c/\oN w r.den E k f
theorem ub.below {r:Rat}{E:ze}{k f:Nat}(h:ub w r b A n c E k f)(hb:Below w.heap.size w w'):ub w' r b A n c E k f:=⟨h.1.below hb,h.2.below hb⟩
def oY (w:World)(r:Rat)(e:Ending)(w':World):Prop:=∃(b:Bool) (A:ze) (n c:Nat) (E:ze) (k f:Nat),e=.returned (.agg #[.bool b,.slice A n c,.slice E k f])/\ub w' r b A n c E k f/\Below w.heap.size w w'
def Vs (w:World)(r:Rat)(e:Ending)(w':World):Prop:=∃(b:Bool) (A:ze) (n c:Nat) (E:ze) (k f:Nat),e=.returned (.agg #[.bool b,.slice A n c,.slice E k f])/\ub w' r b A n c E k f/\Fr w A/\Fr w E/\Below w.heap.size w w'
theorem Vs.old {r:Rat}{e:Ending}(h:Vs w r e w'):oY w r e w':=by
 obtain⟨b,A,n,c,E,k,f,h1,h2,-,-,h3⟩:=h;exact⟨b,A,n,c,E,k,f,h1,h2,h3⟩
