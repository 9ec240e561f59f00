/- What this claim leans on. -/
import Derived.Test.YtipmllfnpldbdaaGreatDoorFD8Form
import Derived.Deep.Matrix
import Derived.Deep.Slices
set_option linter.unusedVariables false
set_option linter.unusedSimpArgs false
namespace Go.Proofs.YtipmllfnpldbdaaGreatDoor
open Go Go.RowKit Go.Proofs.Tryz
open Go.ChangeShapes Go.WideShapes Go.ChangeAt Go.Deep
set_option maxHeartbeats 16000000
variable {b:Bool}{z:Int}{L:List (Int×Int)}{K c f k n x y:Nat}{t t0:TypeId}{W w:World}{A E:zf}
def wh (z:Int):Prop:=-9223372036854775808<=z/\z<=9223372036854775807
theorem fU {H:Type}{d:TypeId×Value->H}{P:Program}{a:Nat}{f0 f1:Field}{c0 c1:Value}{x:DataW H×List MemPlace}
  (hs:P.underlying t=some (.struct #[f0,f1])) (hf:(f0.offset,P.cellsOf f0.type,f1.offset,P.cellsOf f1.type)=(0,1,1,1)) (h0:P.underlying f0.type=some (.int .i64)) (h1:P.underlying f1.type=some (.int .i64))
  (h:DataW.trod d P W 0 (λ_=>true) true a t [c0,c1]=some x):∃p q:Int,c0=.int .i64 p/\c1=.int .i64 q/\wh p/\wh q:=by
 simp only [Prod.mk.injEq] at hf;obtain⟨y0,y1,n,rfl,_,k0,k1⟩:=trod_struct2 hs h;rw [hf.1,hf.2.1] at k0;rw [hf.2.2.1,hf.2.2.2] at k1;simp only [List.drop_zero,List.take_succ_cons,List.take_zero,List.drop_succ_cons] at k0 k1;obtain⟨p,hp,_,wp⟩:=DataW.trod_int h0 k0;obtain⟨q,hq,_,wq⟩:=DataW.trod_int h1 k1;simp only [List.cons.injEq,and_true] at hp hq;have bp:=bounds_i64 wp;have bq:=bounds_i64 wq;exact⟨p,q,hp,hq,⟨za,za⟩,⟨za,za⟩⟩
structure wW (W:World)(A:zf)(n c:Nat)(L:List (Int×Int)):Prop where
 len:L.length=n
 fits:n<=c
 small:c<=1048576
 ints:∀q ∈ L,wh q.1/\wh q.2
 row:∀r q,L[r]?=some q->∃ad,A=some ad/\ad.block<W.heap.size/\W.cell? (ad.add (r*2))=some (.int .i64 q.1)/\W.cell? (ad.add (r*2+1))=some (.int .i64 q.2)
theorem wW.below {W':World}(h:wW W A n c L)(hb:Below W.heap.size W W'):wW W' A n c L:=
 ⟨h.len,h.fits,h.small,h.ints,λr q hr=>by
  obtain⟨ad,e,h1,h2,h3⟩:=h.row r q hr;exact⟨ad,e,qJ h1 hb.size,(hb.cell (by rw [y9];exact h1)).trans h2,(hb.cell (by rw [y9];exact h1)).trans h3⟩⟩
theorem vZ {H:Type}{B:TypeId×Value->H}{P:Program}{g:Nat}{f0 f1:Field}{x:DataW H×List MemPlace}
  (ht:P.underlying t0=some (.slice t)) (hs:P.underlying t=some (.struct #[f0,f1])) (hf:(f0.offset,P.cellsOf f0.type,f1.offset,P.cellsOf f1.type)=(0,1,1,1)) (hC:P.cellsOf t=2) (h0:P.underlying f0.type=some (.int .i64)) (h1:P.underlying f1.type=some (.int .i64))
  (h:DataW.trod B P W 0 (λ_=>true) true g t0 (Value.slice A n c).cells.toList=some x) (hb:Rows.uptoBulk x.1<=1048576):∃L,wW W A n c L:=by
 rcases open_slice ht h with⟨hcs,_⟩|⟨a,len,cap,m,k,D,Pl,hcs,_,hl,hm,hmm,hx,hi⟩
 ·simp [Value.cells] at hcs;obtain⟨rfl,rfl,rfl⟩:=hcs;exact⟨[],rfl,qX _,za,λq hq=>(by cases hq),λr q hr=>by simp at hr⟩
 ·simp [Value.cells] at hcs;obtain⟨rfl,rfl,rfl⟩:=hcs;rw [if_pos rfl] at hmm;rw [hmm] at hx hi;subst hx;have E:=UA.slice_le (H:=H) ((List.range n).map D) ((List.range (c - n)).map λj=>D (n+j));have hb':Rows.uptoBulk (DataW.slice (H:=H) ((List.range n).map D) ((List.range (c - n)).map λj=>D (n+j)))<=1048576:=hb;have C:c<=1048576:=by
   simp only [YZ,List.length_range] at E;omega
  have d:∀r,r<n->∃q:Int×Int,W.cell? (a.add (r*2))=some (.int .i64 q.1)/\W.cell? (a.add (r*2+1))=some (.int .i64 q.2)/\wh q.1/\wh q.2:=λr hr=>by
   obtain⟨cs,u,F⟩:=hi r za;rw [hC] at u;obtain⟨_,y,i⟩:=World.cells?_some u;obtain⟨c0,c1,rfl⟩:∃c0 c1,cs=[c0,c1]:=by
    match cs,y with
    |[c0,c1],_=>exact⟨c0,c1,rfl⟩
   obtain⟨p,q,rfl,rfl,hp,hq⟩:=fU (x:=(D r,Pl r)) hs hf h0 h1 F;have h0:=i 0 zh;have h1:=i 1 zh;rw [Go.Deep.add_add] at h0 h1;exact⟨(p,q),h0,h1,hp,hq⟩
  obtain ⟨f,v⟩ : ∃ f : Nat → Int × Int,∀ r,r < n → W.cell? (a.add (r * 2)) = some (.int .i64 (f r).1) ∧ W.cell? (a.add (r * 2 + 1)) = some (.int .i64 (f r).2) ∧ wh (f r).1 ∧ wh (f r).2 :=
   ⟨λr=>if hr:r<n then(d r hr).choose else(0,0),λr hr=>by simp only [dif_pos hr];exact(d r hr).choose_spec⟩
  refine⟨(List.range n).map f,zD,hl,C,λq hq=>?_,λr q hr=>?_⟩
  ·obtain⟨r,hr,rfl⟩:=List.mem_map.1 hq;exact(v r (List.mem_range.1 hr)).2.2
  ·have z:r<n:=by
    have:=(List.getElem?_eq_some_iff.1 hr).1;simpa using this
   obtain rfl:f r=q:=by
    rw [QM,XW z] at hr;simpa using hr
   obtain⟨c0,c1,_⟩:=v r z;refine⟨a,rfl,?_,c0,c1⟩;have:=QT W _ c0;rw [y9] at this;exact this
theorem fd {H:Type}{g:TypeId×Value->H}{P:Program}{d:Nat}{f0 f1:Field}{v:Value}{x:DataW H×List MemPlace}
  (ht:P.underlying t0=some (.slice t)) (hs:P.underlying t=some (.struct #[f0,f1])) (hf:(f0.offset,P.cellsOf f0.type,f1.offset,P.cellsOf f1.type)=(0,1,1,1)) (hC:P.cellsOf t=2) (h0:P.underlying f0.type=some (.int .i64)) (h1:P.underlying f1.type=some (.int .i64))
  (h:DataW.trod g P W 0 (λ_=>true) true d t0 [v]=some x) (hb:Rows.uptoBulk x.1<=1048576):∃A n c L,v=.slice A n c/\wW W A n c L:=by
 have go:∀A n c,[v]=[Value.slice A n c]->∃A n c L,v=.slice A n c/\wW W A n c L:=λA n c e=>by
  simp only [List.cons.injEq,and_true] at e;subst e;obtain⟨L,hL⟩:=vZ ht hs hf hC h0 h1 (A:=A) (n:=n) (c:=c) (by simpa [Value.cells] using h) hb;exact⟨A,n,c,L,rfl,hL⟩
 rcases open_slice ht h with⟨hcs,_⟩|⟨a,len,cap,m,k,D,Pl,hcs,_⟩
 ·exact go _ _ _ hcs
 ·exact go _ _ _ hcs
theorem wW.take {N:Nat}(h:wW W A n c L)(hN:N<=n):wW W A N c (L.take N):=by
 have hl:=h.len;have hf:=h.fits;refine⟨by rw [QX];omega,za,h.small,λq hq=>h.ints q (XJ hq),λr q hr=>?_⟩;rw [yK] at hr
 split at hr
 ·exact h.row r q hr
 ·cases hr
open Go Go.RowKit Go.Proofs.Tryz
set_option maxHeartbeats 16000000
set_option maxRecDepth 100000
theorem zo.to8 (e:x=y)(h:zo w x A n c):zo w y A n c:=e▸h
theorem zN.to8 {x y:Int}(e:x=y)(h:zN w x b A n c):zN w y b A n c:=e▸h
theorem eu (x:Nat)(A:zf)(n c:Nat)(w:World)(h:zo w x A n c)(hn:n<=1099511627776):
  Calls prog 90 #[.agg #[.slice A n c]] w λe w'=>∃(B:zf) (m d:Nat),e=.returned (.slice B m d)/\zo w' x B m d/\Below w.heap.size w w':=by
 refine(nA x A n c w h hn).mono ?_;rintro e w' ⟨B,d,rfl,h1,h2,h3,h4⟩;exact⟨B,_,d,rfl,⟨h1,h2,h3.1⟩,h4⟩
theorem o9 (x:Nat)(A:zf)(n c:Nat)(w:World)(h:zo w x A n c)(hn:n<=1099511627776):
  Calls prog 89 #[.slice A n c] w λe w'=>∃(B:zf) (m d:Nat),e=.returned (.agg #[.slice B m d])/\zo w' x B m d/\Below w.heap.size w w':=by
 have k:=vr A n c _ w h.1 (vp zh x) h.2.1 h.2.2 hn;rw [wY zh] at k;refine k.mono ?_;rintro e w' ⟨B,m,d,rfl,h1,h2,_⟩;exact⟨B,m,d,rfl,h1,h2⟩
theorem bB {P:Program}{f:FuncId}{args:Array Value}{v:Int}(e:z=v)(h:Calls P f args w λe w'=>e=.returned (.tuple #[.int .u64 z,.bool true])/\Below w.heap.size w w'):Calls P f args w λe w'=>e=.returned (.tuple #[.int .u64 v,.bool true])/\Below w.heap.size w w':=by
 subst e;exact h
theorem kZ {K':Nat}(h:Sz K z.natAbs)(h':Sz K' k):Sz (K+K') (z*((k:Nat):Int)).natAbs:=by
 rw [xA,XS];exact h.mul h'
theorem yp {q:Nat}(h:Sz K q)(e:q=(if x=0 then 1 else x)/\x≠1):Sz K x:=h.of_le (by rw [e.1];split<;>omega)
theorem yl {r:Rat}(h:zt w r b A n c E k f)(q:zI n k)(hK:67108864=K):zp K r:=by
 obtain⟨x,e,hx⟩:=h.2;have h1:Sz K r.num.natAbs:=Sz.of_words h.1.2 (by have:=q.1;omega);have h2:Sz K x:=Sz.of_words hx (by have:=q.2;omega);refine⟨h1,?_⟩;rw [e.1]
 split
 ·exact kO za
 ·exact h2
theorem kQ (w:World):zo w 0 none 0 0:=by
 refine⟨⟨by rw [show dg 18446744073709551616 0=[] from by rw [dg];rfl];rfl,λh=>absurd h zh⟩,qX _,zh⟩
theorem jN (w:World):zt w (0:Rat) false none 0 0 none 0 0:=⟨⟨rfl,kQ w⟩,⟨0,⟨rfl,zh⟩,kQ w⟩⟩
theorem im (h:zN w z b A n c):zt w (z:Rat) b A n c none 0 0:=⟨by rw [yP];exact h,⟨0,⟨by rw [yO];rfl,zh⟩,kQ w⟩⟩
theorem Wo {r:Rat}(hn:r.num=z)(hd:r.den=1)(h:zN w z b A n c)(q:zo w 0 E k f):zt w r b A n c E k f:=
 ⟨by rw [hn];exact h,⟨0,⟨by rw [hd];rfl,zh⟩,q⟩⟩
theorem fI {r:Rat}(hn:r.num=z)(hd:r.den=y)(hy:y≠1)(h:zN w z b A n c)(q:zo w y E k f):zt w r b A n c E k f:=
 ⟨by rw [hn];exact h,⟨y,⟨by rw [if_neg (λh0=>r.den_nz (by rw [hd,h0]))];exact hd,hy⟩,q⟩⟩
theorem jS {q:Nat}(e:q=(if x=0 then 1 else x)/\x≠1)(h:q=1):x=0:=by
 refine Decidable.byContradiction λh0=>?_;rw [if_neg h0] at e;omega
theorem kC {q:Nat}(e:q=(if x=0 then 1 else x)/\x≠1)(h:q≠1):x≠0/\x=q:=by
 have h0:x≠0:=λh0=>h (by rw [e.1,if_pos h0]);refine⟨h0,?_⟩;have:=e.1;rw [if_neg h0] at this;exact this.symm
theorem Ws (z:Int):zJ (decide (z<0)) z.natAbs=z:=by
 unfold zJ;by_cases h:z<0
 ·rw [decide_eq_true h,if_pos rfl];omega
 ·rw [decide_eq_false h,if_neg zh];omega
theorem WR (h:zo w x A n c)(hn:n<=1):x<18446744073709551616:=ir h.len hn
theorem qk (h:zo w x A n c)(hx:x=1):n<=1:=by
 have h1:Sz 1 x:=by rw [hx];exact kO zh
 exact h1.words h
theorem Yf (p d:Int)(hd:d≠0):(Rat.divInt p d).num=zJ (decide (p<0) !=decide (d<0)) (p.natAbs / Nat.gcd p.natAbs d.natAbs)/\(Rat.divInt p d).den=d.natAbs / Nat.gcd p.natAbs d.natAbs:=by
 refine⟨?_,tJ p d hd⟩;have h1:=tK p d hd;have h2:=WV p d hd;rw [<-h1];generalize (Rat.divInt p d).num=z at*;unfold zJ;by_cases hp:p<0
 ·by_cases hq:d<0
  ·rw [decide_eq_true hp,decide_eq_true hq];simp;omega
  ·rw [decide_eq_true hp,decide_eq_false hq];simp;omega
 ·by_cases hq:d<0
  ·rw [decide_eq_false hp,decide_eq_true hq];simp;by_cases h0:p=0
   ·subst h0;simp at h1;omega
   ·omega
  ·rw [decide_eq_false hp,decide_eq_false hq];simp;omega
open Go Go.RowKit Go.Proofs.Tryz
set_option maxHeartbeats 16000000
set_option maxRecDepth 100000
theorem ei (z:Int)(m:Bool)(j:zf)(g t:Nat)(w:World)(hT:zu w)(y:zN w z m j g t)(J:g<=268435456):
  Calls prog 85 #[.agg #[.bool m,.slice j g t]] w (yu w z):=by
 have x:=zd (xx (T:=zu));have HT:=zm w (λw' hb=>hT.on hb);have HTB:=HT;obtain⟨K,I⟩:∃K,268435456=K:=⟨_,rfl⟩;have hKK:K<=268435456:=za;have hK0:0<K:=za;have HV:=zd (Ws z);obtain⟨sb,A⟩:∃s,decide (z<0)=s:=⟨_,rfl⟩;rw [A] at HV;have H:=zd A;clear A;have i:=zm w (λw' b=>y.below b);have u:zg (Sz K z.natAbs):=Sz.of_words y.words za;clear y J;clear hT I;go_enter func85,ntmps85;have hB:=qY w.heap.size w;obtain⟨C,D,E,bz⟩:=ya w 58 58 #[.bool m,.slice j g t] #[.bool false,.slice none 0 0];have hB:=ze hB C;obtain⟨g1,e1⟩:=D.c2;have k2:=E;clear C D E bz;go_wp2_with fail;generalize (w.alloc (.cells #[.bool m,.slice j g t] 58)).alloc (.cells #[.bool false,.slice none 0 0] 58)=W1 at*;have C0:=zm W1 (λw' h=>xc (H.o) (x.o.belowI (z) m j g t w' (HT.o _ (ze hB h)) (i.o _ (ze hB h)) (z6 u (i.o _ hB))));have B:zg (Sz (K) (z.natAbs)):=u.o;have C1:=zm W1 (λw' h=>x.o.abs (z) m j g t w' (HT.o _ (ze hB h)) (i.o _ (ze hB h)) (z6 u (i.o _ hB)));have HZ4:zg (Sz (K) (zJ sb z.natAbs).natAbs):=(by rw [nM];exact B.o);have C2:=zm W1 (λw' h B3 m3 d3 (d:zo w' (z.natAbs) B3 m3 d3)=>x.o.new sb (z.natAbs) B3 m3 d3 w' (HT.o _ (ze hB h)) d (z7 B d));have a:=(qY W1.heap.size W1).drew;refine rg (zk g1 (zk e1 zP)) (λhHeld=>?_);refine tk 0 ?_;refine tk 2 ?_;refine rc 1 (λK hK=>?_);go_simp;go_at_call 97;(with_reducible refine(C0.o _ a).mono ?_);rintro e wa2 ⟨rfl,hb⟩;have a:=ze a hb;refine hK.out _ _ (Cs.below hHeld hb) (λhHeld=>?_);clear hK K hb
 try simp only [zQ]
 refine rc 3 (λK hK=>?_);go_simp;go_at_call 95;(with_reducible refine(C1.o _ a).mono ?_);rintro e wa3 ⟨B3,m3,d3,rfl,d,hb⟩;have a:=ze a hb;refine hK.out _ _ (Cs.below hHeld hb) (λhHeld=>?_);clear hK K hb
 try simp only [zQ]
 refine rc 4 (λK hK=>?_);go_simp;go_at_call 99;(with_reducible refine(C2.o _ a _ _ _ d).mono ?_);rintro e wa4 ⟨b4,B4,m4,d4,rfl,F,hb⟩;have a:=ze a hb;have d:=d.below hb;refine hK.out _ _ (Cs.below hHeld hb) (λhHeld=>?_);clear hK K hb
 try simp only [zQ]
 obtain⟨sc0,sf0,sc1,sf1⟩:=ol (zj a k2) (.bool b4);refine rc 5 (λK hK=>?_);go_simp;refine hK.out _ _ (gA (.bool b4) (.slice B4 m4 d4) hHeld) (λhHeld=>?_);clear hK K
 try simp only [zQ]
 refine yb ?_;have hB:=ze hB a;obtain⟨g1,e1⟩:=zW a g1 e1;have k2:=zj a k2;have G:=zd F;clear a hHeld d F C0 C1 C2;obtain⟨r0,r1⟩:=(oj k2 (.bool b4) (.slice B4 m4 d4)).c2;have HG:=zd (jt (zN.to8 HV.o G.o) k2 hB za);go_wp2;refine bodyPost_ret (v:=.agg #[.bool b4,.slice B4 m4 d4]) (by simp [results,results85,go_sem,r0,r1]) rfl ?_;exact HG.o
theorem kJ (z:Int)(k:Nat)(t:Bool)(j:zf)(g u:Nat)(m:zf)(i x:Nat)(w:World)(hT:zu w)(D:zN w z t j g u)(E:zo w k m i x)(P:g<=134217728)(Q:i<=134217728):
  Calls prog 64 #[.agg #[.bool t,.slice j g u],.agg #[.slice m i x]] w (yu w (z*((k:Nat):Int))):=by
 have F:=zd (xx (T:=zu));have HT:=zm w (λw' hb=>hT.on hb);have HTB:=HT;obtain⟨K,O⟩:∃K,134217728=K:=⟨_,rfl⟩;have hKK:K<=134217728:=za;have hK0:0<K:=za;have y:=zm w (λw' b=>D.below b);have B:zg (Sz K z.natAbs):=Sz.of_words D.words za;clear D P;have A:=zm w (λw' b=>E.below b);have C:zg (Sz K k):=Sz.of_words E za;clear E Q;clear hT O;go_enter func64,ntmps64;have hB:=qY w.heap.size w;obtain⟨H,I,J,L,bz⟩:=yd w 58 56 58 #[.bool t,.slice j g u] #[.slice m i x] #[.bool false,.slice none 0 0];have hB:=ze hB H;obtain⟨g1,e1⟩:=I.c2;have g2:=J.c1;have k3:=L;clear H I J L bz;go_wp2_with fail;generalize ((w.alloc (.cells #[.bool t,.slice j g u] 58)).alloc (.cells #[.slice m i x] 56)).alloc (.cells #[.bool false,.slice none 0 0] 58)=W1 at*;have G:zg (Sz (K) (((k:Nat):Int)).natAbs):=(by rw [XS];exact C.o);have C0:=zm W1 (λw' h=>tz F.o (k) m i x w' (HT.o _ (ze hB h)) (A.o _ (ze hB h)) (z7 C (A.o _ hB)));have HZ5:zg (Sz (K+K) (z*(((k:Nat):Int))).natAbs):=SzI.mul B.o G.o;have C1:=zm W1 (λw' h b4 B4 m4 d4 (d:zN w' (((k:Nat):Int)) b4 B4 m4 d4)=>F.o.mul (z) (((k:Nat):Int)) t b4 j B4 g m4 u d4 w' (HT.o _ (ze hB h)) (y.o _ (ze hB h)) d (z6 B (y.o _ hB)) (z6 G d));have a:=(qY W1.heap.size W1).drew;refine rg (zk g1 (zk e1 (zk g2 zP))) (λhHeld=>?_);refine tk 0 ?_;refine tk 1 ?_;refine rc 2 (λK hK=>?_);go_simp;go_at_call 99;(with_reducible refine(C0.o _ a).mono ?_);rintro e wa2 ⟨b4,B4,m4,d4,rfl,d,hb⟩;have a:=ze a hb;refine hK.out _ _ (Cs.below hHeld hb) (λhHeld=>?_);clear hK K hb
 try simp only [zQ]
 refine rc 3 (λK hK=>?_);go_simp;go_at_call 93;(with_reducible refine(C1.o _ a _ _ _ _ d).mono ?_);rintro e wa3 ⟨b5,B5,m5,d5,rfl,M,hb⟩;have a:=ze a hb;have d:=d.below hb;refine hK.out _ _ (Cs.below hHeld hb) (λhHeld=>?_);clear hK K hb
 try simp only [zQ]
 obtain⟨sc0,sf0,sc1,sf1⟩:=ol (zj a k3) (.bool b5);refine rc 4 (λK hK=>?_);go_simp;refine hK.out _ _ (gA (.bool b5) (.slice B5 m5 d5) hHeld) (λhHeld=>?_);clear hK K
 try simp only [zQ]
 refine yb ?_;have hB:=ze hB a;obtain⟨g1,e1,g2⟩:=zU a g1 e1 g2;have k3:=zj a k3;have N:=zd M;clear a hHeld d M C0 C1;obtain⟨r0,r1⟩:=(oj k3 (.bool b5) (.slice B5 m5 d5)).c2;have HG:=zd (jt (N.o) k3 hB za);go_wp2;refine bodyPost_ret (v:=.agg #[.bool b5,.slice B5 m5 d5]) (by simp [results,results64,go_sem,r0,r1]) rfl ?_;exact HG.o
theorem ZO (r:Rat)(m:Bool)(i:zf)(g t:Nat)(j:zf)(h u:Nat)(w:World)(hT:zu w)(y:zt w r m i g t j h u)(D:zI g h)(hd:r.den=1):
  Calls prog 68 #[.agg #[.bool m,.slice i g t,.slice j h u]] w (λe w'=>e=.returned (.bool true)/\Below w.heap.size w w'):=by
 have HT:=zm w (λw' hb=>hT.on hb);have HTB:=HT;obtain⟨K,C⟩:∃K,67108864=K:=⟨_,rfl⟩;have hKK:K<=67108864:=za;have hK0:0<K:=za;obtain⟨F,a,d⟩:=y.2;have z:=zd a;have v:zg (zp K r):=yl y D C;have HZaap:zg (Sz K r.num.natAbs):=v.o.num;have HZaaq:zg (Sz K F):=yp v.o.den a;have x:=zm w (λw' b=>d.below b);clear y D a d;have E:=zd (jS z.o hd);clear hT C hd;go_enter func68,ntmps68;have hB:=qY w.heap.size w;obtain⟨A,B,bz⟩:=zF w 60 #[.bool m,.slice i g t,.slice j h u];have hB:=ze hB A;obtain⟨g1,e1,i1⟩:=B.c3;clear A B bz;go_wp2_with fail;generalize w.alloc (.cells #[.bool m,.slice i g t,.slice j h u] 60)=W1 at*;(with_reducible refine(nP E.o (x.o _ hB)).mono ?_);rintro e wc2 ⟨rfl,hb⟩;have hB:=ze hB hb;obtain⟨g1,e1,i1⟩:=zU hb g1 e1 i1;clear hb ;go_wp2;go_ret;exact⟨by first|rfl|simp,hB⟩
theorem ZM (r:Rat)(m:Bool)(i:zf)(g t:Nat)(j:zf)(h u:Nat)(w:World)(hT:zu w)(y:zt w r m i g t j h u)(D:zI g h)(hd:r.den≠1):
  Calls prog 68 #[.agg #[.bool m,.slice i g t,.slice j h u]] w (λe w'=>e=.returned (.bool false)/\Below w.heap.size w w'):=by
 have HT:=zm w (λw' hb=>hT.on hb);have HTB:=HT;obtain⟨K,C⟩:∃K,67108864=K:=⟨_,rfl⟩;have hKK:K<=67108864:=za;have hK0:0<K:=za;obtain⟨F,a,d⟩:=y.2;have z:=zd a;have v:zg (zp K r):=yl y D C;have HZaap:zg (Sz K r.num.natAbs):=v.o.num;have HZaaq:zg (Sz K F):=yp v.o.den a;have x:=zm w (λw' b=>d.below b);clear y D a d;have E:=zd (kC z.o hd).1;clear hT C hd;go_enter func68,ntmps68;have hB:=qY w.heap.size w;obtain⟨A,B,bz⟩:=zF w 60 #[.bool m,.slice i g t,.slice j h u];have hB:=ze hB A;obtain⟨g1,e1,i1⟩:=B.c3;clear A B bz;go_wp2_with fail;generalize w.alloc (.cells #[.bool m,.slice i g t,.slice j h u] 60)=W1 at*;(with_reducible refine(oD E.o (x.o _ hB)).mono ?_);rintro e wc2 ⟨rfl,hb⟩;have hB:=ze hB hb;obtain⟨g1,e1,i1⟩:=zU hb g1 e1 i1;clear hb ;go_wp2;go_ret;exact⟨by first|rfl|simp,hB⟩
theorem rr (r:Rat)(i:Bool)(g:zf)(a j:Nat)(h:zf)(d m:Nat)(w:World)(hT:zu w)(t:zt w r i g a j h d m)(u:zI a d):
  Calls prog 68 #[.agg #[.bool i,.slice g a j,.slice h d m]] w (λe w'=>e=.returned (.bool (decide (r.den=1)))/\Below w.heap.size w w'):=by
 by_cases hd:r.den=1
 ·rw [decide_eq_true hd];exact ZO r i g a j h d m w hT t u hd
 ·rw [decide_eq_false hd];exact ZM r i g a j h d m w hT t u hd
