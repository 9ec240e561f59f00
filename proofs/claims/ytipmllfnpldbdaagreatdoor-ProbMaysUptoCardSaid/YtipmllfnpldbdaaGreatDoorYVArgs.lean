/- What this claim leans on. -/
import Derived.Test.YtipmllfnpldbdaaGreatDoorYBunI
import Derived.Deep.Matrix
set_option linter.unusedVariables false
set_option linter.unusedSimpArgs false
namespace Go.Proofs.YtipmllfnpldbdaaGreatDoor
open Go Go.RowKit Go.Proofs.Tryz
open Go.ChangeShapes Go.WideShapes Go.ChangeAt Go.Deep
set_option maxHeartbeats 16000000
variable {b:Bool}{z:Int}{L:List (Int×Int)}{K c f x y:Nat}{t t0:TypeId}{W w:World}{A E:zf}
def wC (z:Int):Prop:=-9223372036854775808<=z/\z<=9223372036854775807
theorem eA {H:Type}{d:TypeId×Value->H}{P:Program}{a:Nat}{f0 f1:Field}{c0 c1:Value}{x:DataW H×List MemPlace}
  (hs:P.underlying t=some (.struct #[f0,f1])) (hf:(f0.offset,P.cellsOf f0.type,f1.offset,P.cellsOf f1.type)=(0,1,1,1)) (h0:P.underlying f0.type=some (.int .i64)) (h1:P.underlying f1.type=some (.int .i64))
  (h:DataW.trod d P W 0 (λ_=>true) true a t [c0,c1]=some x):∃p q:Int,c0=.int .i64 p/\c1=.int .i64 q/\wC p/\wC q:=by
 simp only [Prod.mk.injEq] at hf;obtain⟨y0,y1,n,rfl,_,k0,k1⟩:=trod_struct2 hs h;rw [hf.1,hf.2.1] at k0;rw [hf.2.2.1,hf.2.2.2] at k1;simp only [List.drop_zero,List.take_succ_cons,List.take_zero,List.drop_succ_cons] at k0 k1;obtain⟨p,hp,_,wp⟩:=DataW.trod_int h0 k0;obtain⟨q,hq,_,wq⟩:=DataW.trod_int h1 k1;simp only [List.cons.injEq,and_true] at hp hq;have bp:=bounds_i64 wp;have bq:=bounds_i64 wq;exact⟨p,q,hp,hq,⟨za,za⟩,⟨za,za⟩⟩
structure vm (W:World)(A:zf)(n c:Nat)(L:List (Int×Int)):Prop where
 len:L.length=n
 fits:n<=c
 small:c<=1048576
 ints:∀q ∈ L,wC q.1/\wC q.2
 row:∀r q,L[r]?=some q->∃ad,A=some ad/\ad.block<W.heap.size/\W.cell? (ad.add (r*2))=some (.int .i64 q.1)/\W.cell? (ad.add (r*2+1))=some (.int .i64 q.2)
theorem vm.below {W':World}{n:Nat}(h:vm W A n c L)(hb:Below W.heap.size W W'):vm W' A n c L:=
 ⟨h.len,h.fits,h.small,h.ints,λr q hr=>by
  obtain⟨ad,e,h1,h2,h3⟩:=h.row r q hr;exact⟨ad,e,qJ h1 hb.size,(hb.cell (by rw [y9];exact h1)).trans h2,(hb.cell (by rw [y9];exact h1)).trans h3⟩⟩
theorem vW {H:Type}{B:TypeId×Value->H}{P:Program}{g:Nat}{f0 f1:Field}{n:Nat}{x:DataW H×List MemPlace}
  (ht:P.underlying t0=some (.slice t)) (hs:P.underlying t=some (.struct #[f0,f1])) (hf:(f0.offset,P.cellsOf f0.type,f1.offset,P.cellsOf f1.type)=(0,1,1,1)) (hC:P.cellsOf t=2) (h0:P.underlying f0.type=some (.int .i64)) (h1:P.underlying f1.type=some (.int .i64))
  (h:DataW.trod B P W 0 (λ_=>true) true g t0 (Value.slice A n c).cells.toList=some x) (hb:Rows.uptoBulk x.1<=1048576):∃L,vm W A n c L:=by
 rcases open_slice ht h with⟨hcs,_⟩|⟨a,len,cap,m,k,D,Pl,hcs,_,hl,hm,hmm,hx,hi⟩
 ·simp [Value.cells] at hcs;obtain⟨rfl,rfl,rfl⟩:=hcs;exact⟨[],rfl,qX _,za,λq hq=>(by cases hq),λr q hr=>by simp at hr⟩
 ·simp [Value.cells] at hcs;obtain⟨rfl,rfl,rfl⟩:=hcs;rw [if_pos rfl] at hmm;rw [hmm] at hx hi;subst hx;have E:=UA.slice_le (H:=H) ((List.range n).map D) ((List.range (c - n)).map λj=>D (n+j));have hb':Rows.uptoBulk (DataW.slice (H:=H) ((List.range n).map D) ((List.range (c - n)).map λj=>D (n+j)))<=1048576:=hb;have C:c<=1048576:=by
   simp only [YJ,List.length_range] at E;omega
  have d:∀r,r<n->∃q:Int×Int,W.cell? (a.add (r*2))=some (.int .i64 q.1)/\W.cell? (a.add (r*2+1))=some (.int .i64 q.2)/\wC q.1/\wC q.2:=λr hr=>by
   obtain⟨cs,u,F⟩:=hi r za;rw [hC] at u;obtain⟨_,y,i⟩:=World.cells?_some u;obtain⟨c0,c1,rfl⟩:∃c0 c1,cs=[c0,c1]:=by
    match cs,y with
    |[c0,c1],_=>exact⟨c0,c1,rfl⟩
   obtain⟨p,q,rfl,rfl,hp,hq⟩:=eA (x:=(D r,Pl r)) hs hf h0 h1 F;have h0:=i 0 zh;have h1:=i 1 zh;rw [Go.Deep.add_add] at h0 h1;exact⟨(p,q),h0,h1,hp,hq⟩
  obtain ⟨f,v⟩ : ∃ f : Nat → Int × Int,∀ r,r < n → W.cell? (a.add (r * 2)) = some (.int .i64 (f r).1) ∧ W.cell? (a.add (r * 2 + 1)) = some (.int .i64 (f r).2) ∧ wC (f r).1 ∧ wC (f r).2 :=
   ⟨λr=>if hr:r<n then(d r hr).choose else(0,0),λr hr=>by simp only [dif_pos hr];exact(d r hr).choose_spec⟩
  refine⟨(List.range n).map f,zD,hl,C,λq hq=>?_,λr q hr=>?_⟩
  ·obtain⟨r,hr,rfl⟩:=List.mem_map.1 hq;exact(v r (List.mem_range.1 hr)).2.2
  ·have z:r<n:=by
    have:=(List.getElem?_eq_some_iff.1 hr).1;simpa using this
   obtain rfl:f r=q:=by
    rw [QB,XP z] at hr;simpa using hr
   obtain⟨c0,c1,_⟩:=v r z;refine⟨a,rfl,?_,c0,c1⟩;have:=qT W _ c0;rw [y9] at this;exact this
theorem fG {H:Type}{g:TypeId×Value->H}{P:Program}{d:Nat}{f0 f1:Field}{v:Value}{x:DataW H×List MemPlace}
  (ht:P.underlying t0=some (.slice t)) (hs:P.underlying t=some (.struct #[f0,f1])) (hf:(f0.offset,P.cellsOf f0.type,f1.offset,P.cellsOf f1.type)=(0,1,1,1)) (hC:P.cellsOf t=2) (h0:P.underlying f0.type=some (.int .i64)) (h1:P.underlying f1.type=some (.int .i64))
  (h:DataW.trod g P W 0 (λ_=>true) true d t0 [v]=some x) (hb:Rows.uptoBulk x.1<=1048576):∃A n c L,v=.slice A n c/\vm W A n c L:=by
 have go:∀A n c,[v]=[Value.slice A n c]->∃A n c L,v=.slice A n c/\vm W A n c L:=λA n c e=>by
  simp only [List.cons.injEq,and_true] at e;subst e;obtain⟨L,hL⟩:=vW ht hs hf hC h0 h1 (A:=A) (n:=n) (c:=c) (by simpa [Value.cells] using h) hb;exact⟨A,n,c,L,rfl,hL⟩
 rcases open_slice ht h with⟨hcs,_⟩|⟨a,len,cap,m,k,D,Pl,hcs,_⟩
 ·exact go _ _ _ hcs
 ·exact go _ _ _ hcs
theorem vm.take {n N:Nat}(h:vm W A n c L)(hN:N<=n):vm W A N c (L.take N):=by
 have hl:=h.len;have hf:=h.fits;refine⟨by rw [QY];omega,za,h.small,λq hq=>h.ints q (XK hq),λr q hr=>?_⟩;rw [yV] at hr
 split at hr
 ·exact h.row r q hr
 ·cases hr
open Go Go.RowKit Go.Proofs.Tryz
set_option maxHeartbeats 16000000
set_option maxRecDepth 100000
theorem fN (x y:Nat)(A D:zf)(n m c d:Nat)(w:World)(hA:zp w x A n c)(hD:zp w y D m d)(hn:n<=274877906944)(hm:m<=274877906944):
  Calls prog 115 #[.agg #[.slice A n c],.agg #[.slice D m d]] w (nP w (x / y) (decide (y≠0))):=by
 by_cases hy:y=0
 ·have e:x / y=0:=by rw [hy,Nat.div_zero]
  have e2:decide (y≠0)=false:=by simp [hy]
  rw [e,e2];exact ik 0 0 false A D n m c d w (λw' hb=>fC x y A D n m c d w' (hA.below hb) (hD.below hb) hy)
 ·have e2:decide (y≠0)=true:=by simp [hy]
  rw [e2];exact ik (x / y) (x%y) true A D n m c d w (λw' hb=>kP x y A D n m c d w' (hA.below hb) (hD.below hb) za za hy)
open Go Go.RowKit Go.Proofs.Tryz
set_option maxHeartbeats 16000000
set_option maxRecDepth 100000
theorem WN (x y:Nat)(A D:zf)(n m c d:Nat)(w:World)(hA:zp w x A n c)(hD:zp w y D m d)(hn:n<=1073741824)(hm:m<=1073741824)(hT:zv w):
  Calls prog 94 #[.agg #[.slice A n c],.agg #[.slice D m d]] w (gD w (x / Nat.gcd x y) (y / Nat.gcd x y)):=by
 have HO:=zn w (λw' hb=>tD x y A D n m c d w' (hA.below hb) (hD.below hb) hn hm (hT.on hb));obtain⟨g,hg⟩:∃g,Nat.gcd x y=g:=⟨_,rfl⟩;have lg:(dg 18446744073709551616 g).length<=2147483648:=by
  rw [<-hg];rcases QS x with e|e
  ·rw [e,XN,hD.len];omega
  ·exact qC (pT zh (Nat.gcd_le_left y e)) (by rw [hA.len];omega)
 rw [hg] at HO⊢;have z:=zn w (λw' hb A1 n1 c1 (h1:zp w' g A1 n1 c1)=>fN x g A A1 n n1 c c1 w' (hA.below hb) h1 za (by rw [<-h1.len];omega));have B:=zn w (λw' hb A1 n1 c1 (h1:zp w' g A1 n1 c1)=>fN y g D A1 m n1 d c1 w' (hD.below hb) h1 za (by rw [<-h1.len];omega));obtain⟨X,hX⟩:∃g',x / g=g':=⟨_,rfl⟩;obtain⟨Y,hY⟩:∃g',y / g=g':=⟨_,rfl⟩;obtain⟨bb,a⟩:∃g':Bool,decide (g≠0)=g':=⟨_,rfl⟩;rw [hX,a] at z;rw [hY,a] at B;rw [hX,hY];clear hA hD hT hg lg hX hY a;go_enter func94,ntmps94;go_wp2_with fail;obtain⟨b1,b2,b3,b4,b5⟩:=yc w 56 56 56 #[.slice A n c] #[.slice D m d] #[.slice none 0 0];obtain⟨W3,u⟩:∃W,((w.alloc (.cells #[.slice A n c] 56)).alloc (.cells #[.slice D m d] 56)).alloc (.cells #[.slice none 0 0] 56)=W:=⟨_,rfl⟩;rw [u] at b1 b2 b3 b4 b5⊢;have C:W3.heap.size=w.heap.size+1+1+1:=by rw [<-u];simp
 have kA:=b2.one.alloc (.cells #[.slice none 0 0] 56);have kD:=b3.one.alloc (.cells #[.slice none 0 0] 56);have kx:=b4.one.alloc (.cells #[.slice none 0 0] 56);have ky:=yg.new W3 56 (.slice none 0 0);rw [C] at ky;have hB:=b1.alloc b1.size (.cells #[.slice none 0 0] 56);clear b1 b2 b3 b4 b5 u C;generalize W3.alloc (.cells #[.slice none 0 0] 56)=W4 at*;obtain⟨p,hp⟩:∃p,w.heap.size=p:=⟨_,rfl⟩;have hpw:w.heap.size<=p:=za;refine(HO.o _ hB).mono ?_;rw [hp] at kA kD kx ky⊢;clear hp;rintro e w1 ⟨A1,n1,c1,rfl,h,hb⟩;obtain⟨d1,d2,d3⟩:=zG w1 56 #[.slice A1 n1 c1];have a:=ze hb d1;have kA:=kA.keep a;have kD:=kD.keep a;have kx:=kx.keep a;have ky:=ky.keep a;have hB:=ze hB a;have h:=h.below d1;have kg:=d2.one;clear d1 d2 d3 hb a;have e1:=kA.cell;have e2:=kg.cell;go_wp2_with fail;generalize H:w1.alloc (.cells #[.slice A1 n1 c1] 56)=W5 at*;generalize w1.heap.size=z1 at*;clear H;refine(z.o _ hB A1 n1 c1 h).mono ?_;clear e1 e2;rintro e w2 ⟨A2,n2,c2,rfl,i,hb⟩;have hz2:=(ky.keep hb).lt;obtain⟨d1,d2,d3⟩:=zG w2 56 #[.slice A2 n2 c2];have a:=ze hb d1;have kD:=kD.keep a;have kx:=kx.keep a;have ky:=ky.keep a;have kg:=kg.keep a;have hB:=ze hB a;have h:=h.below a;have i:=i.below d1;have k7:=d2.one;clear d1 d2 d3 hb a kA;have e1:=kD.cell;have e2:=kg.cell;go_wp2_with fail;generalize I:w2.alloc (.cells #[.slice A2 n2 c2] 56)=W6 at*;generalize w2.heap.size=z2 at*;clear I;refine(B.o _ hB A1 n1 c1 h).mono ?_;clear e1 e2;rintro e w3 ⟨A3,n3,c3,rfl,t,hb⟩;have hz3:=(ky.keep hb).lt;obtain⟨d1,d2,d3⟩:=zG w3 56 #[.slice A3 n3 c3];have a:=ze hb d1;have kx:=kx.keep a;have ky:=ky.keep a;have k7:=k7.keep a;have hB:=ze hB a;have i:=i.below a;have t:=t.below d1;have k9:=d2.one;clear d1 d2 d3 hb a kD kg h;go_wp2_with fail;generalize J:w3.alloc (.cells #[.slice A3 n3 c3] 56)=W7 at*;generalize w3.heap.size=z3 at*;clear J;have q7:W7.cell? ⟨z2,0,none⟩=some (.slice A2 n2 c2):=k7.cell;have q9:W7.cell? ⟨z3,0,none⟩=some (.slice A3 n3 c3):=k9.cell;have qx:W7.cell? ⟨p+1+1,0,none⟩=some (.slice none 0 0):=kx.cell;have qy:W7.cell? ⟨p+1+1+1,0,none⟩=some (.slice none 0 0):=ky.cell;have fx:W7.frozen? ⟨p+1+1,0,none⟩=false:=kx.frozen;have fy:W7.frozen? ⟨p+1+1+1,0,none⟩=false:=ky.frozen;have q9':=zS (q:=⟨p+1+1,0,none⟩) (.slice A2 n2 c2) (by show z3≠p+1+1;omega) q9;have G:=kx.set_ (.slice A2 n2 c2);have j:=ky.far (p:=⟨p+1+1,0,none⟩) (by show p+1+1+1≠p+1+1;omega) (.slice A2 n2 c2);have qy':=j.cell;have fy':=j.frozen;have E:=yz i kx (.slice A2 n2 c2);have F:=yz t kx (.slice A2 n2 c2);have rx:=(G.far (p:=⟨p+1+1+1,0,none⟩) (by show p+1+1≠p+1+1+1;omega) (.slice A3 n3 c3)).cell;have ry:=(j.set_ (.slice A3 n3 c3)).cell;have HE : zg (gD w X Y (.returned (.tuple #[.agg #[.slice A2 n2 c2],.agg #[.slice A3 n3 c3]])) ((W7.setCell ⟨p + 1 + 1,0,none⟩ (.slice A2 n2 c2)).setCell ⟨p + 1 + 1 + 1,0,none⟩ (.slice A3 n3 c3)).drew) :=
  ⟨_,_,_,_,_,_,rfl,yz E j _,yz F j _,(hB.setCell (p:=⟨p+1+1,0,none⟩) (by show w.heap.size<=p+1+1;omega) _).setCell (p:=⟨p+1+1+1,0,none⟩) (by show w.heap.size<=p+1+1+1;omega) _|>.drew⟩
 clear k7 k9 kx ky hB i t G j E F;go_region
 all_goals
  go_wp2
  refine bodyPost_ret (v:=.tuple #[.agg #[.slice A2 n2 c2],.agg #[.slice A3 n3 c3]]) (by simp [results,results94,go_sem,rx,ry]) rfl ?_
  exact HE.o
open Go Go.RowKit Go.Proofs.Tryz
set_option maxHeartbeats 16000000
set_option maxRecDepth 100000
theorem Sz.of_words {n:Nat}(h:zp w x A n c)(hn:n<=K):Sz K x:=by
 have h1:=yx (b:=18446744073709551616) zh x;rw [h.len] at h1;exact qJ h1 (qL zh hn)
open Go Go.RowKit Go.Proofs.Tryz
set_option maxHeartbeats 16000000
set_option maxRecDepth 100000
open Go Go.RowKit Go.Proofs.Tryz
set_option maxHeartbeats 16000000
theorem lN:jE where
 of x y A D n m c d w hA hD hn hm hT:=tD x y A D n m c d w hA hD hn hm hT
 reduce x y A D n m c d w hA hD hn hm hT:=WN x y A D n m c d w hA hD hn hm hT
open Go Go.RowKit Go.Proofs.Tryz
set_option maxHeartbeats 16000000
set_option maxRecDepth 100000
theorem zp.to8 {n:Nat}(e:x=y)(h:zp w x A n c):zp w y A n c:=e▸h
theorem zO.to8 {x y:Int}{n:Nat}(e:x=y)(h:zO w x b A n c):zO w y b A n c:=e▸h
theorem cU (x:Nat)(A:zf)(n c:Nat)(w:World)(h:zp w x A n c)(hn:n<=1099511627776):
  Calls prog 90 #[.agg #[.slice A n c]] w λe w'=>∃(B:zf) (m d:Nat),e=.returned (.slice B m d)/\zp w' x B m d/\Below w.heap.size w w':=by
 refine(nM x A n c w h hn).mono ?_;rintro e w' ⟨B,d,rfl,h1,h2,h3,h4⟩;exact⟨B,_,d,rfl,⟨h1,h2,h3.1⟩,h4⟩
theorem nA (x:Nat)(A:zf)(n c:Nat)(w:World)(h:zp w x A n c)(hn:n<=1099511627776):
  Calls prog 89 #[.slice A n c] w λe w'=>∃(B:zf) (m d:Nat),e=.returned (.agg #[.slice B m d])/\zp w' x B m d/\Below w.heap.size w w':=by
 have k:=vr A n c _ w h.1 (vp zh x) h.2.1 h.2.2 hn;rw [wV zh] at k;refine k.mono ?_;rintro e w' ⟨B,m,d,rfl,h1,h2,_⟩;exact⟨B,m,d,rfl,h1,h2⟩
theorem aQ {P:Program}{f:FuncId}{args:Array Value}{v:Int}(e:z=v)(h:Calls P f args w λe w'=>e=.returned (.tuple #[.int .u64 z,.bool true])/\Below w.heap.size w w'):Calls P f args w λe w'=>e=.returned (.tuple #[.int .u64 v,.bool true])/\Below w.heap.size w w':=by
 subst e;exact h
theorem jp {K':Nat}{k:Nat}(h:Sz K z.natAbs)(h':Sz K' k):Sz (K+K') (z*((k:Nat):Int)).natAbs:=by
 rw [xB,XB];exact h.mul h'
theorem yp {q:Nat}(h:Sz K q)(e:q=(if x=0 then 1 else x)/\x≠1):Sz K x:=h.of_le (by rw [e.1];split<;>omega)
theorem yl {r:Rat}{n:Nat}{k:Nat}(h:zu w r b A n c E k f)(q:zJ n k)(hK:67108864=K):zt K r:=by
 obtain⟨x,e,hx⟩:=h.2;have h1:Sz K r.num.natAbs:=Sz.of_words h.1.2 (by have:=q.1;omega);have h2:Sz K x:=Sz.of_words hx (by have:=q.2;omega);refine⟨h1,?_⟩;rw [e.1]
 split
 ·exact jc za
 ·exact h2
theorem je (w:World):zp w 0 none 0 0:=by
 refine⟨⟨by rw [show dg 18446744073709551616 0=[] from by rw [dg];rfl];rfl,λh=>absurd h zh⟩,qX _,zh⟩
theorem il (w:World):zu w (0:Rat) false none 0 0 none 0 0:=⟨⟨rfl,je w⟩,⟨0,⟨rfl,zh⟩,je w⟩⟩
theorem iU {n:Nat}(h:zO w z b A n c):zu w (z:Rat) b A n c none 0 0:=⟨by rw [yR];exact h,⟨0,⟨by rw [yS];rfl,zh⟩,je w⟩⟩
theorem VM {r:Rat}{n:Nat}{k:Nat}(hn:r.num=z)(hd:r.den=1)(h:zO w z b A n c)(q:zp w 0 E k f):zu w r b A n c E k f:=
 ⟨by rw [hn];exact h,⟨0,⟨by rw [hd];rfl,zh⟩,q⟩⟩
theorem eO {r:Rat}{n:Nat}{k:Nat}(hn:r.num=z)(hd:r.den=y)(hy:y≠1)(h:zO w z b A n c)(q:zp w y E k f):zu w r b A n c E k f:=
 ⟨by rw [hn];exact h,⟨y,⟨by rw [if_neg (λh0=>r.den_nz (by rw [hd,h0]))];exact hd,hy⟩,q⟩⟩
theorem iu {q:Nat}(e:q=(if x=0 then 1 else x)/\x≠1)(h:q=1):x=0:=by
 refine Decidable.byContradiction λh0=>?_;rw [if_neg h0] at e;omega
theorem kQ {q:Nat}(e:q=(if x=0 then 1 else x)/\x≠1)(h:q≠1):x≠0/\x=q:=by
 have h0:x≠0:=λh0=>h (by rw [e.1,if_pos h0]);refine⟨h0,?_⟩;have:=e.1;rw [if_neg h0] at this;exact this.symm
theorem VS (z:Int):zK (decide (z<0)) z.natAbs=z:=by
 unfold zK;by_cases h:z<0
 ·rw [decide_eq_true h,if_pos rfl];omega
 ·rw [decide_eq_false h,if_neg zh];omega
theorem Uc {n:Nat}(h:zp w x A n c)(hn:n<=1):x<18446744073709551616:=iI h.len hn
theorem qu {n:Nat}(h:zp w x A n c)(hx:x=1):n<=1:=by
 have h1:Sz 1 x:=by rw [hx];exact jc zh
 exact h1.words h
theorem Wj (p d:Int)(hd:d≠0):(Rat.divInt p d).num=zK (decide (p<0) !=decide (d<0)) (p.natAbs / Nat.gcd p.natAbs d.natAbs)/\(Rat.divInt p d).den=d.natAbs / Nat.gcd p.natAbs d.natAbs:=by
 refine⟨?_,tT p d hd⟩;have h1:=tU p d hd;have h2:=Uf p d hd;rw [<-h1];generalize (Rat.divInt p d).num=z at*;unfold zK;by_cases hp:p<0
 ·by_cases hq:d<0
  ·rw [decide_eq_true hp,decide_eq_true hq];simp;omega
  ·rw [decide_eq_true hp,decide_eq_false hq];simp;omega
 ·by_cases hq:d<0
  ·rw [decide_eq_false hp,decide_eq_true hq];simp;by_cases h0:p=0
   ·subst h0;simp at h1;omega
   ·omega
  ·rw [decide_eq_false hp,decide_eq_false hq];simp;omega
