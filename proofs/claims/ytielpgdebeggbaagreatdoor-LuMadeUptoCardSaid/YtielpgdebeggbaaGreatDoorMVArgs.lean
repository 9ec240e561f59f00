/- What this claim leans on. -/
import Derived.Test.YtielpgdebeggbaaGreatDoorMJ8Add
import Derived.Test.YtielpgdebeggbaaGreatDoorMJ8Mul
set_option linter.unusedVariables false
set_option linter.unusedSimpArgs false
namespace Go.Proofs.YtielpgdebeggbaaGreatDoor
open Go Go.RowKit Go.Proofs.Tryz
open Go.ChangeShapes Go.WideShapes Go.ChangeAt Go.Deep
set_option maxHeartbeats 16000000
variable {ad:Addr}{b:Bool}{L:List (Int×Int)}{xs:List Rat}{c f g k n:Nat}{t t0:TypeId}{v:Value}{W w:World}{A E:ze}
def wY (z:Int):Prop:=-9223372036854775808<=z/\z<=9223372036854775807
theorem Ql {H:Type}{d:TypeId×Value->H}{P:Program}{a:Nat}{f0 f1:Field}{c0 c1:Value}{x:DataW H×List MemPlace}
  (hs:P.underlying t=some (.struct #[f0,f1])) (hf:(f0.offset,P.cellsOf f0.type,f1.offset,P.cellsOf f1.type)=(0,1,1,1)) (h0:P.underlying f0.type=some (.int .i64)) (h1:P.underlying f1.type=some (.int .i64))
  (h:DataW.trod d P W 0 (λ_=>true) true a t [c0,c1]=some x):∃p q:Int,c0=.int .i64 p/\c1=.int .i64 q/\wY p/\wY q:=by
 simp only [Prod.mk.injEq] at hf;obtain⟨y0,y1,n,rfl,_,k0,k1⟩:=trod_struct2 hs h;rw [hf.1,hf.2.1] at k0;rw [hf.2.2.1,hf.2.2.2] at k1;simp only [List.drop_zero,List.take_succ_cons,List.take_zero,List.drop_succ_cons] at k0 k1;obtain⟨p,hp,_,wp⟩:=DataW.trod_int h0 k0;obtain⟨q,hq,_,wq⟩:=DataW.trod_int h1 k1;simp only [List.cons.injEq,and_true] at hp hq;have bp:=bounds_i64 wp;have bq:=bounds_i64 wq;exact⟨p,q,hp,hq,⟨za,za⟩,⟨za,za⟩⟩
structure vt (W:World)(A:ze)(n c:Nat)(L:List (Int×Int)):Prop where
 len:L.length=n
 fits:n<=c
 small:c<=1048576
 ints:∀q ∈ L,wY q.1/\wY q.2
 row:∀r q,L[r]?=some q->∃ad,A=some ad/\ad.block<W.heap.size/\W.cell? (ad.add (r*2))=some (.int .i64 q.1)/\W.cell? (ad.add (r*2+1))=some (.int .i64 q.2)
theorem vt.below {W':World}(h:vt W A n c L)(hb:Below W.heap.size W W'):vt W' A n c L:=
 ⟨h.len,h.fits,h.small,h.ints,λr q hr=>by
  obtain⟨ad,e,h1,h2,h3⟩:=h.row r q hr;exact⟨ad,e,qJ h1 hb.size,(hb.cell (by rw [y4];exact h1)).trans h2,(hb.cell (by rw [y4];exact h1)).trans h3⟩⟩
theorem si {H:Type}{y:TypeId×Value->H}{P:Program}{f0 f1:Field}{x:DataW H×List MemPlace}
  (ht:P.underlying t0=some (.slice t)) (hs:P.underlying t=some (.struct #[f0,f1])) (hf:(f0.offset,P.cellsOf f0.type,f1.offset,P.cellsOf f1.type)=(0,1,1,1)) (hC:P.cellsOf t=2) (h0:P.underlying f0.type=some (.int .i64)) (h1:P.underlying f1.type=some (.int .i64))
  (h:DataW.trod y P W 0 (λ_=>true) true g t0 (Value.slice A n c).cells.toList=some x) (hb:Rows.uptoBulk x.1<=1048576):∃L,vt W A n c L:=by
 rcases open_slice ht h with⟨hcs,_⟩|⟨a,len,cap,m,k,D,Pl,hcs,_,hl,hm,hmm,hx,hi⟩
 ·simp [Value.cells] at hcs;obtain⟨rfl,rfl,rfl⟩:=hcs;exact⟨[],rfl,qX _,za,λq hq=>(by cases hq),λr q hr=>by simp at hr⟩
 ·simp [Value.cells] at hcs;obtain⟨rfl,rfl,rfl⟩:=hcs;rw [if_pos rfl] at hmm;rw [hmm] at hx hi;subst hx;have B:=UA.slice_le (H:=H) ((List.range n).map D) ((List.range (c - n)).map λj=>D (n+j));have hb':Rows.uptoBulk (DataW.slice (H:=H) ((List.range n).map D) ((List.range (c - n)).map λj=>D (n+j)))<=1048576:=hb;have z:c<=1048576:=by
   simp only [QH,XD] at B;omega
  have d:∀r,r<n->∃q:Int×Int,W.cell? (a.add (r*2))=some (.int .i64 q.1)/\W.cell? (a.add (r*2+1))=some (.int .i64 q.2)/\wY q.1/\wY q.2:=λr hr=>by
   obtain⟨cs,o,C⟩:=hi r za;rw [hC] at o;obtain⟨_,u,i⟩:=World.cells?_some o;obtain⟨c0,c1,rfl⟩:∃c0 c1,cs=[c0,c1]:=by
    match cs,u with
    |[c0,c1],_=>exact⟨c0,c1,rfl⟩
   obtain⟨p,q,rfl,rfl,hp,hq⟩:=Ql (x:=(D r,Pl r)) hs hf h0 h1 C;have h0:=i 0 zf;have h1:=i 1 zf;rw [Go.Deep.add_add] at h0 h1;exact⟨(p,q),h0,h1,hp,hq⟩
  obtain ⟨f,s⟩ : ∃ f : Nat → Int × Int,∀ r,r < n → W.cell? (a.add (r * 2)) = some (.int .i64 (f r).1) ∧ W.cell? (a.add (r * 2 + 1)) = some (.int .i64 (f r).2) ∧ wY (f r).1 ∧ wY (f r).2 :=
   ⟨λr=>if hr:r<n then(d r hr).choose else(0,0),λr hr=>by simp only [dif_pos hr];exact(d r hr).choose_spec⟩
  refine⟨(List.range n).map f,zF,hl,z,λq hq=>?_,λr q hr=>?_⟩
  ·obtain⟨r,hr,rfl⟩:=List.mem_map.1 hq;exact(s r (List.mem_range.1 hr)).2.2
  ·have v:r<n:=by
    have:=(List.getElem?_eq_some_iff.1 hr).1;simpa using this
   obtain rfl:f r=q:=by
    rw [qW,xB v] at hr;simpa using hr
   obtain⟨c0,c1,_⟩:=s r v;refine⟨a,rfl,?_,c0,c1⟩;have:=QM W _ c0;rw [y4] at this;exact this
theorem T8 {H:Type}{g:TypeId×Value->H}{P:Program}{d:Nat}{f0 f1:Field}{x:DataW H×List MemPlace}
  (ht:P.underlying t0=some (.slice t)) (hs:P.underlying t=some (.struct #[f0,f1])) (hf:(f0.offset,P.cellsOf f0.type,f1.offset,P.cellsOf f1.type)=(0,1,1,1)) (hC:P.cellsOf t=2) (h0:P.underlying f0.type=some (.int .i64)) (h1:P.underlying f1.type=some (.int .i64))
  (h:DataW.trod g P W 0 (λ_=>true) true d t0 [v]=some x) (hb:Rows.uptoBulk x.1<=1048576):∃A n c L,v=.slice A n c/\vt W A n c L:=by
 have go:∀A n c,[v]=[Value.slice A n c]->∃A n c L,v=.slice A n c/\vt W A n c L:=λA n c e=>by
  simp only [List.cons.injEq,and_true] at e;subst e;obtain⟨L,hL⟩:=si ht hs hf hC h0 h1 (A:=A) (n:=n) (c:=c) (by simpa [Value.cells] using h) hb;exact⟨A,n,c,L,rfl,hL⟩
 rcases open_slice ht h with⟨hcs,_⟩|⟨a,len,cap,m,k,D,Pl,hcs,_⟩
 ·exact go _ _ _ hcs
 ·exact go _ _ _ hcs
structure ti (W:World)(A:ze)(n c:Nat)(R:Nat->ze×Nat×Nat×List (Int×Int)):Prop where
 fits:n<=c
 small:c<=1048576
 row:∀r,r<n->∃ad,A=some ad/\ad.block<W.heap.size/\W.cell? (ad.add r)=some (.slice (R r).1 (R r).2.1 (R r).2.2.1)/\vt W (R r).1 (R r).2.1 (R r).2.2.1 (R r).2.2.2
theorem Sf {H:Type}{s:TypeId×Value->H}{P:Program}{t9:TypeId}{f0 f1:Field}{x:DataW H×List MemPlace}
  (E:P.underlying t9=some (.slice t0)) (u:P.cellsOf t0=1) (ht:P.underlying t0=some (.slice t)) (hs:P.underlying t=some (.struct #[f0,f1])) (hf:(f0.offset,P.cellsOf f0.type,f1.offset,P.cellsOf f1.type)=(0,1,1,1)) (hC:P.cellsOf t=2) (h0:P.underlying f0.type=some (.int .i64)) (h1:P.underlying f1.type=some (.int .i64))
  (h:DataW.trod s P W 0 (λ_=>true) true g t9 (Value.slice A n c).cells.toList=some x) (hb:Rows.uptoBulk x.1<=1048576):∃R,ti W A n c R:=by
 rcases open_slice E h with⟨hcs,_⟩|⟨a,len,cap,m,k,D,Pl,hcs,_,hl,hm,hmm,hx,hi⟩
 ·simp [Value.cells] at hcs;obtain⟨rfl,rfl,rfl⟩:=hcs;exact⟨λ_=>(none,0,0,[]),qX _,za,λr hr=>by omega⟩
 ·simp [Value.cells] at hcs;obtain⟨rfl,rfl,rfl⟩:=hcs;rw [if_pos rfl] at hmm;rw [hmm] at hx hi;subst hx;have C:=UA.slice_le (H:=H) ((List.range n).map D) ((List.range (c - n)).map λj=>D (n+j));have y:Rows.uptoBulk (DataW.slice (H:=H) ((List.range n).map D) ((List.range (c - n)).map λj=>D (n+j)))<=1048576:=hb;have z:c<=1048576:=by
   simp only [QH,XD] at C;omega
  have d:∀r,r<n->∃q:ze×Nat×Nat×List (Int×Int),W.cell? (a.add r)=some (.slice q.1 q.2.1 q.2.2.1)/\vt W q.1 q.2.1 q.2.2.1 q.2.2.2:=λr hr=>by
   obtain⟨cs,i,F⟩:=hi r za;rw [u] at i;obtain⟨_,o,v⟩:=World.cells?_some i;obtain⟨c0,rfl⟩:∃c0,cs=[c0]:=by
    match cs,o with
    |[c0],_=>exact⟨c0,rfl⟩
   have hD:Rows.uptoBulk (D r)<=1048576:=by
    have B:D r ∈(List.range n).map D:=List.mem_map.2 ⟨r,List.mem_range.2 hr,rfl⟩;have hm2:=UA.mem_le B;simp only [Rows.uptoBulk] at y;omega
   obtain⟨A',n',c',L,rfl,hL⟩:=T8 (x:=(D r,Pl r)) ht hs hf hC h0 h1 F hD;have h0:=v 0 zf;rw [Go.Deep.add_add,xO,XH] at h0;exact⟨(A',n',c',L),h0,hL⟩
  refine⟨λr=>if hr:r<n then(d r hr).choose else(none,0,0,[]),hl,z,λr hr=>⟨a,rfl,?_,?_⟩⟩
  ·have:=QM W _ (d r hr).choose_spec.1;rw [y4] at this;exact this
  ·simp only [dif_pos hr];exact(d r hr).choose_spec
theorem vt.take {N:Nat}(h:vt W A n c L)(hN:N<=n):vt W A N c (L.take N):=by
 have hl:=h.len;have hf:=h.fits;refine⟨by rw [qE];omega,za,h.small,λq hq=>h.ints q (XX hq),λr q hr=>?_⟩;rw [xZ] at hr
 split at hr
 ·exact h.row r q hr
 ·cases hr
open Go Go.RowKit Go.Proofs.Tryz
set_option maxHeartbeats 16000000
set_option maxRecDepth 100000
structure dD (w:World)(A:ze)(n c:Nat)(rs:List Rat):Prop where
 len:rs.length=n
 fits:n<=c
 most:c<=9223372036854775807
 num:∀i,i<n->∃(ad:Addr) (b:Bool) (B:ze) (m d:Nat) (E:ze) (u v:Nat),A=some ad/\ad.block<w.heap.size/\w.cell? (ad.add (i*3))=some (.bool b)/\w.cell? (ad.add (i*3+1))=some (.slice B m d)/\w.cell? (ad.add (i*3+2))=some (.slice E u v)/\zo w (rs.getD i 0) b B m d E u v
theorem dD.below {w':World}{rs:List Rat}(h:dD w A n c rs)(hb:Below w.heap.size w w'):dD w' A n c rs:=
 ⟨h.len,h.fits,h.most,λi hi=>by
  obtain⟨ad,b,B,m,d,E,u,v,e,h1,h2,h3,h4,h5⟩:=h.num i hi;exact⟨ad,b,B,m,d,E,u,v,e,qJ h1 hb.size,zw hb h2,zw hb h3,zw hb h4,h5.below hb⟩⟩
def rq (rs:List Rat):Rat:=rs.foldl (λa b=>a+b) 0
theorem P5 (rs:List Rat)(r:Rat):rq (rs++[r])=rq rs+r:=by unfold rq;rw [yH];rfl
theorem P6 (rs:List Rat)(k:Nat)(h:k<rs.length):rq (rs.take (k+1))=rq (rs.take k)+rs.getD k 0:=by
 rw [QG h,P5,qQ,qY h];rfl
theorem Qz {r:Rat}{p:Bool}{q q2:ze}{r1 s r2 s2:Nat}(h:zo w r b A n c E k f)(kd:zh w g t #[.bool p,.slice q r1 s,.slice q2 r2 s2])(x y z:Value):
  zo (((w.setCell ⟨g,0,none⟩ x).setCell ⟨g,1,none⟩ y).setCell ⟨g,2,none⟩ z) r b A n c E k f:=iY h kd (y9.s3 _ _ _ _ _ _ _) (vP _ _ _ _ _)
theorem rR {g':Nat}{cs:Array Value}(h:zh w g t cs)(a:g≠g')(x y z:Value):zh (((w.setCell ⟨g',0,none⟩ x).setCell ⟨g',1,none⟩ y).setCell ⟨g',2,none⟩ z) g t cs:=((h.far (p:=⟨g',0,none⟩) a x).far (p:=⟨g',1,none⟩) a y).far (p:=⟨g',2,none⟩) a z
theorem nQ (h:w.cell? (ad.add (k+1))=some v):w.cell? ⟨(ad.add k).block,(ad.add k).off+1,none⟩=some v:=by
 rw [<-Go.Deep.add_add] at h;exact h
theorem nR (h:w.cell? (ad.add (k+2))=some v):w.cell? ⟨(ad.add k).block,(ad.add k).off+2,none⟩=some v:=by
 rw [<-Go.Deep.add_add] at h;exact h
theorem lf (rs:List Rat)(A:ze)(n c K:Nat)(w:World)(hT:zu w)(h:dD w A n c rs)(hn:n<=1073741824)(hK:K<=67108864)(he:∀i,i<n->zn K (rs.getD i 0))(hs:∀k,k<=n->zn K (rq (rs.take k))):
  Calls prog 59 #[.slice A n c] w (yj w (rq rs)):=by
 have F:=zk w (λw' h=>hT.on h);have HN:=zk w (λw' hb=>h.below hb);have HS:=zb hs;have HE:=zb he;have E:=zb (λk (hk:k<n)=>P6 rs k (by rw [h.len];exact hk));have HF:zd (rq (rs.take n)=rq rs):=by
  show _=_;rw [qV (by rw [h.len];exact qX _)]
 clear h hs he hT;go_enter func59,ntmps59;go_wp2_with fail;obtain⟨hB,a,hp,b5⟩:=yv w 52 52 #[.bool false,.slice none 0 0,.slice none 0 0] #[.bool false,.slice none 0 0,.slice none 0 0];generalize hV:(w.alloc (.cells #[.bool false,.slice none 0 0,.slice none 0 0] 52)).alloc (.cells #[.bool false,.slice none 0 0,.slice none 0 0] 52)=V1 at*;clear hV b5;obtain⟨gp,C⟩:∃g,w.heap.size+1=g:=⟨_,rfl⟩;rw [C] at hp⊢;have hgw:w.heap.size<gp:=za
 go_loopg [9] (n+1) (λg ix wr=>∃(k:Nat) (b:Bool) (Ap:ze) (np cp:Nat) (Ep:ze) (kp fp:Nat),k<=n/\n<g+k/\ix=.int .i64 k/\zo wr (rq (rs.take k)) b Ap np cp Ep kp fp/\zh wr gp 52 #[.bool b,.slice Ap np cp,.slice Ep kp fp]/\Below w.heap.size w wr/\zh wr w.heap.size 52 #[.bool false,.slice none 0 0,.slice none 0 0])
 case atStart=>exact⟨0,false,none,0,0,none,0,0,qM _,za,rfl,Zw _,hp,hB,a⟩
 case round=>
  clear hp hB a C;obtain⟨k,b,Ap,np,cp,Ep,kp,fp,o,hg,rfl,hw,hp,hB,a⟩:=hrel;by_cases hlt:k<n
  ·obtain⟨ad,b1,B1,m1,d1,E1,u1,v1,rfl,hadb,H,j,m,hx⟩:=(HN.o _ hB).num k hlt;have HM:=zk wr (λw' hb=>aG (rq (rs.take k)) (rs.getD k 0) b Ap np cp Ep kp fp b1 B1 m1 d1 E1 u1 v1 w' (F.o _ (zc hB hb)) (hw.below hb) (hx.below hb) (zn.fit (HS.o k o) hw hK) (zn.fit (HE.o k hlt) hx hK));have j:=nQ j;have m:=nR m;have i1:(0:Int)<=(k:Int):=za;have i2:(k:Int)<(n:Int):=za;obtain⟨p0,p1,p2⟩:=hp.c3;obtain⟨st,d2,d3⟩:=zA wr 52 #[.bool b1,.slice B1 m1 d1,.slice E1 u1 v1];obtain⟨q0,q1,q2⟩:=d2.c3;have p3:=zw st p0;have p4:=zw st p1;have p5:=zw st p2;have y:=zb (HM.o _ st);have t:=zb (zc hB st);have z:=zb (zg st hp);have u:=zb (zg st a);clear hw hx hB hp a HM st d2 d3;go_wp2_with fail;refine y.o.mono ?_;rintro e w3 ⟨b3,A3,n3,c3,E3,k3,f3,rfl,s,hb⟩;rw [<-E.o k hlt] at s;have B:=zc t.o hb;have d:=zg hb z.o;have D:=zg hb u.o;obtain⟨M,P,N,Q,O,R⟩:=y6 d (.bool b3) (.slice A3 n3 c3);have L:=Qz s d (.bool b3) (.slice A3 n3 c3) (.slice E3 k3 f3);have G:=lV (.bool b3) (.slice A3 n3 c3) (.slice E3 k3 f3) (by show w.heap.size<=gp;omega) B;have J:=xf d (.bool b3) (.slice A3 n3 c3) (.slice E3 k3 f3);have I:=rR D (by show w.heap.size≠gp;omega) (.bool b3) (.slice A3 n3 c3) (.slice E3 k3 f3);clear hb B d D s y t z u H j m p0 p1 p2 p3 p4 p5 q0 q1 q2;go_wp2;go_roundg (n - k)
   case measure=>omega
   case rel=>exact⟨k+1,b3,A3,n3,c3,E3,k3,f3,za,za,by go_num,L,J,G,I⟩
  ·have o:k=n:=za;subst o;rw [HF.o] at hw;obtain⟨p0,p1,p2⟩:=hp.c3;obtain⟨M,P,N,Q,O,R⟩:=y6 a (.bool b) (.slice Ap np cp);obtain⟨r0,r1,r2⟩:=(xf a (.bool b) (.slice Ap np cp) (.slice Ep kp fp)).c3;have HG:=zb (va hw a hB (qX _));clear hw hp a hB;go_wp2;refine bodyPost_ret (v:=.agg #[.bool b,.slice Ap np cp,.slice Ep kp fp]) (by simp [results,results59,go_sem,r0,r1,r2]) rfl ?_;exact HG.o
open Go Go.RowKit Go.Proofs.Tryz
set_option maxHeartbeats 16000000
set_option maxRecDepth 100000
theorem tX (p:Int)(w:World)(hT:zu w)(g: -9223372036854775808<=p)(h:p<=9223372036854775807):
  Calls prog 25 #[.int .i64 p] w (yj w (p:Rat)):=by
 have j:=zb (vy (T:=zu));have HT:=zk w (λw' hb=>hT.on hb);have HTB:=HT;obtain⟨K,m⟩:∃K,67108864=K:=⟨_,rfl⟩;have hKK:K<=67108864:=za;have hK0:0<K:=za;clear hT m;go_enter func25,ntmps25;have hB:=qZ w.heap.size w;obtain⟨a,d,bz⟩:=zA w 52 #[.bool false,.slice none 0 0,.slice none 0 0];have hB:=zc hB a;have k1:=d;clear a d bz;go_wp2_with fail;generalize w.alloc (.cells #[.bool false,.slice none 0 0,.slice none 0 0] 52)=W1 at*;have HZ2:zd (Sz (1) (p).natAbs):=(by show Int.natAbs p<18446744073709551616^1;have e1: -9223372036854775808<=p:=g;have e2:p<=9223372036854775807:=h;omega);(with_reducible refine(j.o.of p _ (HT.o _ hB) g h).mono ?_);rintro e wc2 ⟨b2,B2,m2,d2,rfl,i,hb⟩;have hB:=zc hB hb;have k1:=zg hb k1;have k:=zb i;clear hb i;obtain⟨sc0,sf0,sc1,sf1,sc2,sf2⟩:=y6 k1 (.bool b2) (.slice B2 m2 d2);obtain⟨r0,r1,r2⟩:=(xf k1 (.bool b2) (.slice B2 m2 d2) (.slice none 0 0)).c3;have HG:=zb (va (bS k.o) k1 hB za);go_wp2;refine bodyPost_ret (v:=.agg #[.bool b2,.slice B2 m2 d2,.slice none 0 0]) (by simp [results,results25,go_sem,r0,r1,r2]) rfl ?_;exact HG.o
theorem PO (z:Int)(g:Bool)(d:ze)(a h:Nat)(w:World)(hT:zu w)(k:yi w z g d a h)(y:a<=67108864):
  Calls prog 121 #[.agg #[.bool g,.slice d a h]] w (yj w (z:Rat)):=by
 have HT:=zk w (λw' hb=>hT.on hb);have HTB:=HT;obtain⟨K,u⟩:∃K,67108864=K:=⟨_,rfl⟩;have hKK:K<=67108864:=za;have hK0:0<K:=za;have i:=zk w (λw' b=>k.below b);have j:zd (Sz K z.natAbs):=Sz.of_words k.words za;clear k y;clear hT u;go_enter func121,ntmps121;have hB:=qZ w.heap.size w;obtain⟨m,n,o,bz⟩:=yv w 50 52 #[.bool g,.slice d a h] #[.bool false,.slice none 0 0,.slice none 0 0];have hB:=zc hB m;obtain⟨g1,e1⟩:=n.c2;have k2:=o;clear m n o bz;go_wp2_with fail;generalize (w.alloc (.cells #[.bool g,.slice d a h] 50)).alloc (.cells #[.bool false,.slice none 0 0,.slice none 0 0] 52)=W1 at*;have HZ3:zd (Sz (K) (z).natAbs):=j.o;(with_reducible refine(ZI (z) g d a h _ (HT.o _ hB) (i.o _ hB) (yz j (i.o _ hB))).mono ?_);rintro e wc2 ⟨b3,B3,m3,d3,rfl,s,hb⟩;have hB:=zc hB hb;obtain⟨g1,e1⟩:=xk hb g1 e1;have k2:=zg hb k2;have t:=zb s;clear hb s;obtain⟨sc0,sf0,sc1,sf1,sc2,sf2⟩:=y6 k2 (.bool b3) (.slice B3 m3 d3);obtain⟨r0,r1,r2⟩:=(xf k2 (.bool b3) (.slice B3 m3 d3) (.slice none 0 0)).c3;have HG:=zb (va (bS t.o) k2 hB za);go_wp2;refine bodyPost_ret (v:=.agg #[.bool b3,.slice B3 m3 d3,.slice none 0 0]) (by simp [results,results121,go_sem,r0,r1,r2]) rfl ?_;exact HG.o
open Go Go.RowKit Go.Proofs.Tryz
set_option maxHeartbeats 16000000
section
variable {K K':Nat}{x y:Rat}{b b':Bool}{A A':ze}{n n' c c':Nat}{E E':ze}{k k' f f':Nat}{w:World}
theorem fB (hT:zu w)(h:zo w x b A n c E k f)(h':zo w y b' A' n' c' E' k' f')(z:zn K x)(z':zn K' y)(hK:K<=67108864:=by omega)(a:K'<=67108864:=by omega):
  Calls prog 64 #[.agg #[.bool b,.slice A n c,.slice E k f],.agg #[.bool b',.slice A' n' c',.slice E' k' f']] w (yj w (x+y)):=aG x y b A n c E k f b' A' n' c' E' k' f' w hT h h' (z.fit h hK) (z'.fit h' a)
theorem fD (hT:zu w)(h:zo w x b A n c E k f)(h':zo w y b' A' n' c' E' k' f')(z:zn K x)(z':zn K' y)(hK:K<=67108864:=by omega)(a:K'<=67108864:=by omega):
  Calls prog 115 #[.agg #[.bool b,.slice A n c,.slice E k f],.agg #[.bool b',.slice A' n' c',.slice E' k' f']] w (yj w (x - y)):=TG x y b A n c E k f b' A' n' c' E' k' f' w hT h h' (z.fit h hK) (z'.fit h' a)
theorem uT (hT:zu w)(h:zo w x b A n c E k f)(h':zo w y b' A' n' c' E' k' f')(z:zn K x)(z':zn K' y)(hK:K<=67108864:=by omega)(a:K'<=67108864:=by omega):
  Calls prog 44 #[.agg #[.bool b,.slice A n c,.slice E k f],.agg #[.bool b',.slice A' n' c',.slice E' k' f']] w (yj w (x*y)):=TD x y b A n c E k f b' A' n' c' E' k' f' w hT h h' (z.fit h hK) (z'.fit h' a)
theorem fC (hT:zu w)(h:zo w x b A n c E k f)(h':zo w y b' A' n' c' E' k' f')(z:zn K x)(z':zn K' y)(hK:K<=67108864:=by omega)(a:K'<=67108864:=by omega):
  Calls prog 100 #[.agg #[.bool b,.slice A n c,.slice E k f],.agg #[.bool b',.slice A' n' c',.slice E' k' f']] w (vU w (uW x y)):=TC x y b A n c E k f b' A' n' c' E' k' f' w hT h h' (z.fit h hK) (z'.fit h' a)
theorem Xe {t:Bool}(e:decide (x=y)=t)(hT:zu w)(h:zo w x b A n c E k f)(h':zo w y b' A' n' c' E' k' f')(z:zn K x)(z':zn K' y)(hK:K<=67108864:=by omega)(a:K'<=67108864:=by omega):
  Calls prog 33 #[.agg #[.bool b,.slice A n c,.slice E k f],.agg #[.bool b',.slice A' n' c',.slice E' k' f']] w (λe w'=>e=.returned (.bool t)/\Below w.heap.size w w'):=wE e (U6 x y b A n c E k f b' A' n' c' E' k' f' w hT h h' (z.fit h hK) (z'.fit h' a))
theorem dG {t:Bool}(e:decide (x=0)=t)(hT:zu w)(h:zo w x b A n c E k f)(z:zn K x)(hK:K<=67108864:=by omega):
  Calls prog 20 #[.agg #[.bool b,.slice A n c,.slice E k f]] w (λe w'=>e=.returned (.bool t)/\Below w.heap.size w w'):=wE e (th x b A n c E k f w hT h (z.fit h hK))
end
theorem ja:∀(args:Array Value) (w':World),Sem.run prog (callFunc 44 args) w'=.ok (.enter 44 args) w':=Go.Proofs.enters_of func44 yd rfl
theorem mh:∀(args:Array Value) (w':World),Sem.run prog (callFunc 63 args) w'=.ok (.enter 63 args) w':=Go.Proofs.enters_of func63 yd rfl
theorem zR.rats (h:zR w A n c xs):dD w A n c xs:=⟨h.len,h.fits,h.most,λi hi=>h.at_ hi 0⟩
theorem ov (rs:List Rat):rq rs=uU rs:=rfl
theorem pT {K:Nat}(hT:zu w)(h:zR w A n c xs)(hx:zD K xs)(hn:n<=1073741824)(hK:1+n*(K+1)<=67108864):
  Calls prog 59 #[.slice A n c] w (yj w (uU xs)):=by
 have hl:=h.len;have e:=ov xs;rw [<-e];refine lf xs A n c (1+n*(K+1)) w hT h.rats hn hK (λi hi=>(hx.at_ za).up ?_) (λk hk=>?_)
 ·have:K+1<=n*(K+1):=Nat.le_mul_of_pos_left _ za;omega
 ·rw [ov];exact lv hx hl k hk
theorem US {x:Rat}(h:zh w g t #[.bool b,.slice A n c,.slice E k f])(hx:zo w x b A n c E k f):zR w (some ⟨g,0,none⟩) 1 1 [x]:=
 ⟨rfl,qX _,zf,λi y hi=>by
  have h0:i=0:=by
   have:=(List.getElem?_eq_some_iff.1 hi).1;simpa using this
  subst h0;obtain rfl:x=y:=by simpa using hi
  exact⟨_,b,A,n,c,E,k,f,rfl,h.lt,by rw [xv];exact h.cell 0,by rw [xv];exact h.cell 1,by rw [xv];exact h.cell 2,hx⟩⟩
open Go Go.RowKit Go.Proofs.Tryz
set_option maxHeartbeats 16000000
set_option maxRecDepth 100000
theorem mt {T:World->Prop}{M:Nat->Prop}(J:∀w w',T w->Below w.heap.size w w'->T w')(IC:kM T)(QC:kN T M)(p q:Int)(r:Rat)(K:Nat)(bx:Bool)(Bx:ze)(mx dx:Nat)(Ex:ze)(ux vx:Nat)(w:World)(hK:K<=16777216)(hz:zn K r)(h:zo w r bx Bx mx dx Ex ux vx)(hT:T w)(z: -9223372036854775808<=p)(A:p<=9223372036854775807)(B: -9223372036854775808<=q)(C:q<=9223372036854775807)(L:q≠0)(he:r=Rat.divInt p q):
  Calls prog 18 #[.agg #[.bool bx,.slice Bx mx dx,.slice Ex ux vx],.int .i64 p,.int .i64 q] w λe w'=>e=.returned (.bool true)/\Below w.heap.size w w':=by
 have E:=zb IC;have o:=zb QC;have HT:=zk w (λw' hb=>J w w' hT hb);have HE:=zb he;have t:=zb hz;have i:=zb h;clear IC QC hT he hz h;go_enter func18,ntmps18;have hB:=qZ w.heap.size w;obtain⟨j,u,bz⟩:=zA w 52 #[.bool bx,.slice Bx mx dx,.slice Ex ux vx];have hB:=zc hB j;have i:=zb (i.o.below j);obtain⟨g1,e1,i1⟩:=u.c3;clear j u bz;go_wp2_with fail;generalize w.alloc (.cells #[.bool bx,.slice Bx mx dx,.slice Ex ux vx] 52)=W1 at*;have s:zd (zn (1) (Rat.divInt p q)):=zn.made (K:=1) (by show Int.natAbs p<18446744073709551616^1;have e1: -9223372036854775808<=p:=z;have e2:p<=9223372036854775807:=A;omega) (by show Int.natAbs q<18446744073709551616^1;have e1: -9223372036854775808<=q:=B;have e2:q<=9223372036854775807:=C;omega) zf;(with_reducible refine(o.o.of p q _ (HT.o _ hB) z A B C L).mono ?_);rintro e v ⟨b2,B2,m2,d2,E2,u2,v2,rfl,D,hb⟩;have hB:=zc hB hb;have i:=zb (i.o.below hb);obtain⟨g1,e1,i1⟩:=yl hb g1 e1 i1;have m:=zb D;clear hb D;obtain⟨j,u,bz⟩:=zA v 52 #[.bool b2,.slice B2 m2 d2,.slice E2 u2 v2];have hB:=zc hB j;have i:=zb (i.o.below j);obtain⟨g1,e1,i1⟩:=yl j g1 e1 i1;have m:=zb (m.o.below j);obtain⟨g3,e3,i3⟩:=u.c3;clear j u bz;go_wp2_with fail;generalize v.alloc (.cells #[.bool b2,.slice B2 m2 d2,.slice E2 u2 v2] 52)=W3 at*;generalize v.heap.size=q3 at*;have C0:=zk W3 (λw' h=>wE (decide_eq_true HE.o) (o.o.same (r) (Rat.divInt p q) bx b2 Bx B2 mx m2 dx d2 Ex E2 ux u2 vx v2 w' (HT.o _ (zc hB h)) (i.o.below h) (m.o.below h) (szq t i.o) (szq s m.o)));have F:zd (Sz (K) (r.num).natAbs):=zn.num t.o;have C1:=zk W3 (λw' h=>o.o.num (r) bx Bx mx dx Ex ux vx w' (HT.o _ (zc hB h)) (i.o.below h) (szq t i.o));have G:zd (Sz (1) ((Rat.divInt p q).num).natAbs):=zn.num s.o;have C2:=zk W3 (λw' h=>o.o.num (Rat.divInt p q) b2 B2 m2 d2 E2 u2 v2 w' (HT.o _ (zc hB h)) (m.o.below h) (szq s m.o));have C3:=zk W3 (λw' h b4 B4 m4 d4 (d:yi w' (r.num) b4 B4 m4 d4) b5 B5 m5 d5 (g:yi w' ((Rat.divInt p q).num) b5 B5 m5 d5)=>mo (by rw [HE.o]) (E.o.cmp (r.num) ((Rat.divInt p q).num) b4 b5 B4 B5 m4 m5 d4 d5 w' (HT.o _ (zc hB h)) d g (by have:=Sz.words F.o d.words;omega) (by have:=Sz.words G.o g.words;omega)));have H:zd (Sz (K) (r.den)):=zn.den t.o;have C4:=zk W3 (λw' h=>o.o.den (r) bx Bx mx dx Ex ux vx w' (HT.o _ (zc hB h)) (i.o.below h) (szq t i.o));have I:zd (Sz (1) ((Rat.divInt p q).den)):=zn.den s.o;have C5:=zk W3 (λw' h=>o.o.den (Rat.divInt p q) b2 B2 m2 d2 E2 u2 v2 w' (HT.o _ (zc hB h)) (m.o.below h) (szq s m.o));have C6:=zk W3 (λw' h B6 m6 d6 (k:zq w' (r.den) B6 m6 d6) B7 m7 d7 (n:zq w' ((Rat.divInt p q).den) B7 m7 d7)=>gX (x:=r.den) (y:=(Rat.divInt p q).den) (by rw [HE.o]) k n (y7 H k) (y7 I n));have a:=(qZ W3.heap.size W3).drew;refine rg (zj g1 (zj e1 (zj i1 (zj g3 (zj e3 (zj i3 zO)))))) (λhHeld=>?_);refine tk 0 ?_;refine tk 1 ?_;refine tk 2 ?_;refine tk 3 ?_;refine rc 4 (λK hK=>?_);go_simp;go_at_call 33;(with_reducible refine(C0.o _ a).mono ?_);rintro e wa4 ⟨rfl,hb⟩;have a:=zc a hb;refine hK.out _ _ (Cs.below hHeld hb) (λhHeld=>?_);clear hK K hb
 try simp only [z8]
 refine tk 5 ?_;refine tk 6 ?_;refine tk 7 ?_;refine tk 9 ?_;refine rc 8 (λK hK=>?_);go_simp;go_at_call 55;(with_reducible refine(C1.o _ a).mono ?_);rintro e wa5 ⟨b4,B4,m4,d4,rfl,d,hb⟩;have a:=zc a hb;refine hK.out _ _ (Cs.below hHeld hb) (λhHeld=>?_);clear hK K hb
 try simp only [z8]
 refine rc 10 (λK hK=>?_);go_simp;go_at_call 55;(with_reducible refine(C2.o _ a).mono ?_);rintro e wa6 ⟨b5,B5,m5,d5,rfl,g,hb⟩;have a:=zc a hb;have d:=d.below hb;refine hK.out _ _ (Cs.below hHeld hb) (λhHeld=>?_);clear hK K hb
 try simp only [z8]
 refine rc 11 (λK hK=>?_);go_simp;go_at_call 54;(with_reducible refine(C3.o _ a _ _ _ _ d _ _ _ _ g).mono ?_);rintro e wa7 ⟨rfl,hb⟩;have a:=zc a hb;have d:=d.below hb;have g:=g.below hb;refine hK.out _ _ (Cs.below hHeld hb) (λhHeld=>?_);clear hK K hb
 try simp only [z8]
 refine tk 12 ?_;refine tk 13 ?_;refine tk 14 ?_;refine tk 15 ?_;refine tk 17 ?_;refine rc 16 (λK hK=>?_);go_simp;go_at_call 57;(with_reducible refine(C4.o _ a).mono ?_);rintro e wa8 ⟨B6,m6,d6,rfl,k,hb⟩;have a:=zc a hb;have d:=d.below hb;have g:=g.below hb;refine hK.out _ _ (Cs.below hHeld hb) (λhHeld=>?_);clear hK K hb
 try simp only [z8]
 refine rc 18 (λK hK=>?_);go_simp;go_at_call 57;(with_reducible refine(C5.o _ a).mono ?_);rintro e wa9 ⟨B7,m7,d7,rfl,n,hb⟩;have a:=zc a hb;have d:=d.below hb;have g:=g.below hb;have k:=k.below hb;refine hK.out _ _ (Cs.below hHeld hb) (λhHeld=>?_);clear hK K hb
 try simp only [z8]
 refine rc 19 (λK hK=>?_);go_simp;go_at_call 56;(with_reducible refine(C6.o _ a _ _ _ k _ _ _ n).mono ?_);rintro e wa10 ⟨rfl,hb⟩;have a:=zc a hb;have d:=d.below hb;have g:=g.below hb;have k:=k.below hb;have n:=n.below hb;refine hK.out _ _ (Cs.below hHeld hb) (λhHeld=>?_);clear hK K hb
 try simp only [z8]
 refine tk 20 ?_;refine tk 21 ?_;refine tk 22 ?_;refine zV ?_;have hB:=zc hB a;obtain⟨g1,e1,i1,g3,e3,i3⟩:=yh a g1 e1 i1 g3 e3 i3;clear a hHeld d g k n C0 C1 C2 C3 C4 C5 C6;go_wp2;go_ret;exact⟨by first|rfl|simp,hB⟩
