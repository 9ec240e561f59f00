/- What this claim leans on. -/
import Derived.Test.YtkcjgcflloldoaaGreatDoorPLList
set_option linter.unusedVariables false
set_option linter.unusedSimpArgs false
namespace Go.Proofs.YtkcjgcflloldoaaGreatDoor
open Go Go.RowKit Go.Proofs.Tryz
set_option maxHeartbeats 16000000
set_option maxRecDepth 100000
variable {ad:Addr}{S:List (List Rat)}{ld:List Nat}{xs ys:List Rat}{K a c cD g gA i j k m n x:Nat}{W w:World}{A:ze}
def WH (m:Nat)(z:Int)(w:World)(M:List (List Rat))(e:Ending)(w':World):Prop:=∃(A:ze) (c:Nat),e=.returned (.tuple #[.agg #[.slice A 2 c,.int .i64 z],.bool true])/\wG w' A 2 c m M/\(∀ad,A=some ad->w.heap.size<=ad.block)/\Below w.heap.size w w'
theorem xm.of_sz {M:List (List Rat)}(h:yc K M)(hd:zQ M n m):xm (1+(m+1)*K) M:=⟨λrow hr=>(fa (by rw [hd.cols row hr];exact qX _) (h row hr)).1,λrow hr x hx=>(fa (by rw [hd.cols row hr];exact qX _) (h row hr)).2 x hx⟩
def E1:List (List Rat):=[ws [1,2,0],ws [0,0,1]]
def E2:List (List Rat):=[ws [1,2],ws [3,4]]
def E3:List (List Rat):=[ws [1,1],ws [1,1]]
theorem d2 (h1:xs.length=m)(h2:ys.length=m):zQ [xs,ys] 2 m:=⟨rfl,λL hL=>by
 simp at hL;rcases hL with rfl|rfl
 ·exact h1
 ·exact h2⟩
theorem eV (h1:zN K xs)(h2:zN K ys):yc K [xs,ys]:=λL hL=>by
 simp at hL;rcases hL with rfl|rfl
 ·exact h1
 ·exact h2
section
variable {A B V Q:ze}{c d cv q:Nat}{M:List (List Rat)}{xs:List Rat}{w:World}
theorem kQ (hT:zu w)(h:xi (zZ zp) w Q 2 M)(hd:zQ M 2 2)(z:yc 1 M):Calls prog 24 #[.int .i64 2,.slice Q 2 q] w (WH 2 2 w M):=Wv (m:=2) hT h hd zf zf z zf
end
theorem z7.rest {k:Nat}(h:z7 w (some ad) n c xs)(hk:k<=n):z7 w (some (ad.add (k*3))) (n - k) (c - k) (xs.drop k):=
 ⟨by rw [xK,h.len],by have:=h.fits;omega,by have:=h.most;omega,λi x hi=>by
  rw [yW] at hi;obtain⟨ad',b,B,m,d,F,u,v,e,h1,h2,h3,h4,h5⟩:=h.num _ x hi;injection e with e;subst e;have ea:∀j,(ad.add (k*3)).add j=ad.add (k*3+j):=λj=>jb _ _ _;refine⟨_,b,B,m,d,F,u,v,rfl,by rw [yw];exact h1,?_,?_,?_,h5⟩
  ·rw [ea,show k*3+i*3=(k+i)*3 by omega];exact h2
  ·rw [ea,show k*3+(i*3+1)=(k+i)*3+1 by omega];exact h3
  ·rw [ea,show k*3+(i*3+2)=(k+i)*3+2 by omega];exact h4⟩
theorem wK.hangs {α:Type}{R:RP α}{wo W2 wr:World}{t:TypeId}{Ls:List (List α)}(h:wK R wo t g n Ls)(h2:Below wo.heap.size wo W2)(hi:i<n)(hb:Below wo.heap.size (W2.setCell ⟨g,i,none⟩ (.slice (some ⟨wo.heap.size,0,none⟩) m m)) wr):wr.cell? ⟨g,i,none⟩=some (.slice (some ⟨wo.heap.size,0,none⟩) m m):=by
 obtain⟨cs,hk,h1,h3⟩:=h.blk;have a:=((zg h2 hk).set_ i (.slice (some ⟨wo.heap.size,0,none⟩) m m)).below hb hk.lt;rw [a.cell,QZ za]
theorem wK.put {α:Type}{R:RP α}(hR:tJ R){wo W2 wr:World}{t:TypeId}{g n i m:Nat}{Ls:List (List α)}{L:List α}(h:wK R wo t g n Ls)(h2:Below wo.heap.size wo W2)(hi:i<n)(hb:Below wo.heap.size (W2.setCell ⟨g,i,none⟩ (.slice (some ⟨wo.heap.size,0,none⟩) m m)) wr)(hx:R wr (some ⟨wo.heap.size,0,none⟩) m m L)(hm:L.length=m):wK R wr t g n (Ls.set i L):=by
 subst hm;obtain⟨cs,hk,h1,h3⟩:=h.blk;have c:=hk.lt;have a:=((zg h2 hk).set_ i (.slice (some ⟨wo.heap.size,0,none⟩) L.length L.length)).below hb c;have hs:=h2.size;have ho:yl g wo wr:=⟨by have:=hb.size;simp at this;omega,λp hp hq=>((hb.cell hp).trans ((yl.of_far ((xg.refl g W2).set_ i _)).2 p za hq)).trans (h2.cell hp)⟩;have hc:wr.cell? ⟨g,i,none⟩=some (.slice (some ⟨wo.heap.size,0,none⟩) L.length L.length):=by rw [a.cell,QZ za]
 refine⟨by rw [QV];exact h.len,⟨_,a,?_,by simp;exact h3⟩,λj y hj=>?_⟩
 ·intro u hu;rw [QL] at hu;rcases xL hu with hu|rfl
  ·exact h1 u hu
  ·exact⟨_,_,_,rfl⟩
 ·by_cases hij:i=j
  ·subst hij;have hl:=h.len;rw [XY za] at hj;injection hj with hj;subst hj;exact⟨_,_,hc,hx⟩
  ·rw [XJ hij] at hj;obtain⟨B',d',c1,c2⟩:=h.num j y hj;refine⟨B',d',?_,hR.offS c2 hk h1 ho⟩;rw [a.cell,qK za,<-hk.cell];exact c1
theorem U0 (f:Nat->Nat->Rat)(F:FuncId)(ad:Array Value)(n:Nat)(w:World)(hG:kk f F ad n n w)(hn:n<=64:=by omega):
  Calls prog 120 #[.int .i64 (n:Int),.func (.func F) #[] ad] w (aN w n (wF n n f)):=by
 obtain⟨hEn,hF⟩:=hG;have HF:=zb hF;have E:=zb (TN n n f);have C:zd (∀r,r<n->(wF n n f)[r]?=some ((List.range n).map (f r))):=λr hr=>TM f hr;have V:zd (∀r c,c<n->((List.range n).map (f r))[c]?=some (f r c)):=λr c hc=>Ue (f r) hc;have X:zd (∀r,((List.range n).map (f r)).length=n):=λr=>Uf n (f r);obtain⟨v,A⟩:∃v:Nat->List Rat,(λr=>(List.range n).map (f r))=v:=⟨_,rfl⟩;have u:∀r,(List.range n).map (f r)=v r:=λr=>by rw [<-A]
 simp only [u] at C V X;obtain⟨M,hM⟩:∃M,wF n n f=M:=⟨_,rfl⟩;rw [hM] at E C⊢;obtain⟨Z,hZ⟩:=jo n za;have HMK:∀W,(Instr.makeSlice 58 (.int .i64 (n:Int)) (.int .i64 (n:Int))).run prog W=.ok (.slice (some ⟨W.heap.size,0,none⟩) n n) (W.alloc (.cells Z 54)):=λW=>(hZ W).1;have aa:=zb (λW=>(hZ W).2);obtain⟨Y,hY⟩:=U3 n za;have HMKV:∀W,(Instr.makeSlice 26 (.int .i64 (n:Int)) (.int .i64 (n:Int))).run prog W=.ok (.slice (some ⟨W.heap.size,0,none⟩) n n) (W.alloc (.cells Y 58)):=λW=>(hY W).1;have a:=(hY w).2;have d:Below w.heap.size w (w.alloc (.cells Y 58)):=(qZ _ w).alloc (qX _) _;rw [<-lZ [] M n] at a;clear hF A u hM hZ hY;unfold aN;have i0:(0:Int)<=(n:Int):=za;go_enter func120,ntmps120;go_wp2_with fail;obtain⟨g0,af⟩:∃g,w.heap.size=g:=⟨_,rfl⟩;have ai:w.heap.size<=g0:=za;rw [af] at a⊢;generalize w.alloc (.cells Y 58)=W1 at*;clear af
 go_loopg [12] (n+1) (λg ix wr=>∃(k:Nat),k<=n/\n<g+k/\ix=.int .i64 k/\wK (zZ zp) wr 58 g0 n (uJ [] M n k)/\Below w.heap.size w wr)
 case atStart=>exact⟨0,QQ _,za,rfl,a,d⟩
 case round=>
  clear a d;obtain⟨k,hkn,hg,rfl,a,hB⟩:=hrel;obtain⟨wo,au⟩:∃wo,wo=wr:=⟨_,rfl⟩;subst au;by_cases hlt:k<n
  ·have aq:decide ((k:Int)<(n:Int))=true:=decide_eq_true za;have i2:(0:Int)<=(k:Int):=za;have i3:(k:Int)<(n:Int):=za;have z:=zb (V.o k);have m:=zb (X.o k);have y:=zb (C.o k hlt);obtain⟨R,hR⟩:∃R,v k=R:=⟨_,rfl⟩;rw [hR] at z m y;have i:=aa.o wo;have d:Below wo.heap.size wo (wo.alloc (.cells Z 54)):=(qZ _ wo).alloc (qX _) _;have L:=a.below (yk yt) d;obtain⟨q0,Q,S⟩:=L.ready hlt;obtain⟨cs,ag,ae,-⟩:=L.blk;have K:wo.heap.size≠g0:=by have:=a.lt;omega
   have i:yn _ wo.heap.size n _:=yn.turn i (ya.set_ g0 k _ (.slice (some ⟨wo.heap.size,0,none⟩) n n)) ag (fE ae) K;rw [<-lZ 0 R n] at i;have o:=zb a;have T:=zb d;have an:=zb K;have HB:=zb (zB (p:=⟨g0,k,none⟩) (.slice (some ⟨wo.heap.size,0,none⟩) n n) ai (zc hB d));have ac:=zb hB.size;clear a hB d L ag ae K hR;go_wp2_with fail;clear Q S;obtain⟨W3,I⟩:∃W3,(wo.alloc (.cells Z 54)).setCell ⟨g0,k,none⟩ (.slice (some ⟨wo.heap.size,0,none⟩) n n)=W3:=⟨_,rfl⟩;have H:=zb I;rw [I] at i HB⊢;have am:=zb (λwr (hb:Below wo.heap.size W3 wr)=>o.o.hangs T.o hlt (by rw [H.o];exact hb));have ab:=zb (λwr (hb:Below wo.heap.size W3 wr) (hx:z7 wr (some ⟨wo.heap.size,0,none⟩) n n R)=>wK.put (yk yt) o.o T.o hlt (by rw [H.o];exact hb) hx m.o);clear I H
   go_loopg [21] (n+1) (λg jx wr=>∃(j:Nat),j<=n/\n<g+j/\jx=.int .i64 j/\yn wr wo.heap.size n (uJ 0 R n j)/\Below wo.heap.size W3 wr)
   case atStart=>exact⟨0,QQ _,za,rfl,i,qZ _ _⟩
   case round=>
    clear i;obtain⟨j,hjm,hg2,rfl,i,d⟩:=hrel;have s:=zb i;by_cases hjl:j<n
    ·have ar:decide ((j:Int)<(n:Int))=true:=decide_eq_true za;have i4:(0:Int)<=(j:Int):=za;have i5:(j:Int)<(n:Int):=za;have al:=zb (z.o j hjl);have p0:=am.o _ d;have G:zd (wo.heap.size<wr.heap.size):=i.lt;have U:=zb d.drew;clear i d;go_wp2_with fail;have J:=(qZ wr.heap.size wr).drew;refine rg (zk p0 zO) (λhHeld=>?_);clear p0;have s:=zb (s.o.keep J);have G:=zb (qJ G.o J.size);clear J;generalize wr.drew=D at*;refine tk 0 ?_;refine tk 1 ?_;refine tk 2 ?_;refine tk 3 ?_;refine tk 4 ?_;refine tk 5 ?_;refine tk 6 ?_;refine tk 7 ?_;refine rc 8 (λKK t=>?_);go_simp;refine(HF.o k j hlt hjl _ (HB.o.trans (U.o.mono ac.o))).mono ?_;rintro e w3 ⟨b3,A3,n3,c3,E3,k3,f3,rfl,ah,hb⟩;refine t.out _ _ (Cs.below hHeld hb) (λhHeld=>?_);have N:=s.o.keep hb;have O:=wH.set_ yt N hjl ah;rw [kf 0 R n j m.o hjl _ al.o] at O;obtain⟨q0,q1,q2,Q,S,av,ax,aw,ay⟩:=N.ready hjl (.bool b3) (.slice A3 n3 c3);have ao:=zb O;have aj:=zb ((((U.o.trans (hb.mono (QK G.o))).setCell (p:=⟨wo.heap.size,j*3,none⟩) (qX _) (.bool b3)).setCell (p:=⟨wo.heap.size,j*3+1,none⟩) (qX _) (.slice A3 n3 c3)).setCell (p:=⟨wo.heap.size,j*3+2,none⟩) (qX _) (.slice E3 k3 f3));have B:=(((xg.refl wo.heap.size w3).set_ (j*3) (.bool b3)).set_ (j*3+1) (.slice A3 n3 c3)).set_ (j*3+2) (.slice E3 k3 f3);clear N O hb ah s t KK;refine tk 9 ?_;refine rc 10 (λKK t=>?_);go_simp;refine t.out _ _ (Cs.far hHeld B ⟨Ne.symm an.o,trivial⟩) (λhHeld=>?_);clear t KK Q S av ax aw ay B;refine z4 ?_;clear hHeld;go_wp2;go_roundg (n - j)
     case measure=>omega
     case rel=>exact⟨j+1,za,za,by go_num,ao.o,aj.o⟩
    ·have hj:j=n:=za;subst hj;have ar:decide ((j:Int)<(j:Int))=false:=zG;have P:=ab.o _ d (wE (ke 0 R j m.o▸s.o));rw [kf [] M j k E.o hlt _ y.o] at P;have ap:=zb P;have ak:=zb (HB.o.trans (d.mono ac.o));clear i d P s;go_wp2;go_roundg (j - k)
     case measure=>omega
     case rel=>exact⟨k+1,za,za,by go_num,ap.o,ak.o⟩
  ·have hk:k=n:=za;subst hk;have aq:decide ((k:Int)<(k:Int))=false:=zG;have o:=zb (ke [] M k E.o▸a);have HB:=zb hB;clear a hB;go_wp2;go_ret;exact⟨g0,rfl,ai,o.o,HB.o⟩
theorem lK {q:Nat}{qs:List Nat}:uW m (yy 0 c q qs)=((uW m qs).set c (.slice (some ⟨qs.getD q 0,0,none⟩) m m)).set q (.slice (some ⟨qs.getD c 0,0,none⟩) m m):=by
 unfold uW yy;rw [List.map_set,List.map_set]
theorem wM.open {l:Nat}(h:wM w c (.slice (some ⟨g,0,none⟩) l cD) ld):∃a:Array Value,c<=g/\l=ld.length/\zh w g 3 a/\l<=cD/\cD<=maxLen/\a.size=cD/\a.toList.take l=vG ld/\∀u ∈ a.toList,gz u:=by
 rcases h.own.2 with⟨e,_⟩|⟨g',cap,a,e1,e2,e3,e4,e5,e6,e7⟩
 ·cases e
 ·injection e1 with a1 a2 a3;injection a1 with a1;injection a1 with a1;subst a1 a2 a3;obtain⟨d,s,h1,h2⟩:=h.pr g rfl;have hc:d=a:=by rw [e3] at h1;injection h1 with h1;injection h1 with h1 _;exact h1.symm
  subst hc;exact⟨d,e2,rfl,e3,e4,e5,za,by rw [<-e7,xS],h2⟩
theorem wM.put {l:Nat}(h:wM w a (.slice (some ⟨g,0,none⟩) l cD) ld)(hi:i<l):wM (w.setCell ⟨g,i,none⟩ (.int .i64 (x:Int))) a (.slice (some ⟨g,0,none⟩) l cD) (ld.set i x):=by
 obtain⟨cur,h1,h2,h3,h4,h5,h6,h7,h8⟩:=h.open;have hk:=h3.set_ i (.int .i64 (x:Int));refine⟨⟨by unfold vG;rw [QP,xS],.inr ⟨g,cD,_,by rw [QV,<-h2],h1,hk,by rw [QV,<-h2];exact h4,h5,by simp;exact h6,?_⟩⟩,λq e=>?_⟩
 ·rw [QV,<-h2,xS,QL,YR,h7];unfold vG;rw [List.map_set]
 ·simp [Value.ownBlock] at e;subst e;refine⟨_,_,hk,λu hu=>?_⟩;rw [QL] at hu;rcases xL hu with hu|rfl
  ·exact h8 u hu
  ·exact⟨_,rfl⟩
theorem wM.ready {l:Nat}(h:wM w a (.slice (some ⟨g,0,none⟩) l cD) ld)(hi:i<l):w.cell? ⟨g,i,none⟩=some (.int .i64 (ld.getD i 0:Nat))/\w.frozen? ⟨g,i,none⟩=false:=by
 obtain⟨cur,h1,h2,h3,h4,h5,h6,h7,h8⟩:=h.open;refine⟨?_,h3.frozen _⟩;have hc:=h.own.cells (g:=g) rfl i (.int .i64 (ld.getD i 0:Nat)) (by unfold vG;rw [qW,qQ,qY za];rfl);rw [wu] at hc;exact hc
section
variable {w:World}{g m:Nat}{e:xh}{n cA:Nat}{k cB:Nat}{l cD:Nat}{A B D:ze}{x0 x1 x2:Value}{qs:List Nat}{c q:Nat}
theorem zF.rowAt (h:zF w g m e (some ⟨gA,0,none⟩) n cA B k cB D l cD x0 x1 x2 qs){i:Nat}(hi:i<n):w.cell? ⟨gA,i,none⟩=some (.slice (some ⟨qs.getD i 0,0,none⟩) m m)/\w.frozen? ⟨gA,i,none⟩=false/\yn w (qs.getD i 0) m (e.S.getD i []):=by
 have hn:=h.hn;have hl:=h.rows.len;obtain⟨_,cs,hk,_⟩:=h.rows.at_ (q:=gA) rfl;have hc:=h.rows.own.cells (g:=gA) rfl i (.slice (some ⟨qs.getD i 0,0,none⟩) m m) (by
  unfold uW;rw [qW,qQ,qY za];rfl)
 rw [wu] at hc;exact⟨hc,hk.frozen _,h.rows.row i za⟩
theorem zF.exA (h:zF w g m e (some ⟨gA,0,none⟩) n cA B k cB D l cD x0 x1 x2 qs)(hc:c<n)(hq:q<n)(s:c≠q):
  (w.setCell ⟨gA,c,none⟩ (.slice (some ⟨qs.getD q 0,0,none⟩) m m)).cell? ⟨gA,q,none⟩=some (.slice (some ⟨qs.getD q 0,0,none⟩) m m)/\(w.setCell ⟨gA,c,none⟩ (.slice (some ⟨qs.getD q 0,0,none⟩) m m)).frozen? ⟨gA,q,none⟩=false/\
  zF ((w.setCell ⟨gA,c,none⟩ (.slice (some ⟨qs.getD q 0,0,none⟩) m m)).setCell ⟨gA,q,none⟩ (.slice (some ⟨qs.getD c 0,0,none⟩) m m)) g m {e with S:=yy [] c q e.S} (some ⟨gA,0,none⟩) n cA B k cB D l cD x0 x1 x2 (yy 0 c q qs):=by
 have hn:=h.hn;have hl:=h.rows.len;obtain⟨c1,_,_⟩:=h.rowAt hc;obtain⟨c2,_,_⟩:=h.rowAt hq;rcases h.rows.own.2 with⟨e9,_⟩|⟨g',cap,cur,e1,e2,e3,e4,e5,e6,e7⟩
 ·cases e9
 ·injection e1 with a1 a2 a3;injection a1 with a1;injection a1 with a1;subst a1 a3;have a:=zh.set_ e3 c (.slice (some ⟨qs.getD q 0,0,none⟩) m m);have hk2:=a.set_ q (.slice (some ⟨qs.getD c 0,0,none⟩) m m);have ht:=(ya.set_ gA c w (.slice (some ⟨qs.getD q 0,0,none⟩) m m)).trans (ya.set_ gA q _ (.slice (some ⟨qs.getD c 0,0,none⟩) m m));obtain⟨b1,b2,b3,b4,b5⟩:=h.turnA (q:=gA) rfl ht;obtain⟨j,s9,q1,q2⟩:=h.rows.sl gA rfl;have o:j=cur:=by rw [e3] at q1;injection q1 with q1;injection q1 with q1 _;exact q1.symm
  subst o;refine⟨?_,a.frozen _,?_⟩
  ·rw [a.cell,qK s,<-zh.cell e3];exact c2
  ·have d:=Xo (0:Nat) (r:=c) (q:=q) (L:=qs) za za;exact {
    blk:=b1
    hn:=by show(yy [] c q e.S).length=n;rw [oX];exact hn
    hk:=h.hk
    hl:=h.hl
    rows:={
     own:=⟨by show(uW m (yy 0 c q qs)).length=(yy [] c q e.S).length*1;unfold uW;rw [QP,oX,oX,hl,xS],.inr ⟨gA,cA,_,by show _=Value.slice _ (yy [] c q e.S).length _;rw [oX,hn],e2,hk2,by show(yy [] c q e.S).length<=_;rw [oX];exact e4,e5,by simp;simpa using e6,by
      show _=_;rw [oX,lK,QL,QL,YR,YR,e7]⟩⟩
     sl:=λq9 e9=>by
      simp [Value.ownBlock] at e9;subst e9;refine⟨_,_,hk2,λu hu=>?_⟩;rw [QL,QL] at hu;rcases xL hu with hu|rfl
      ·rcases xL hu with hu|rfl
       ·exact q2 u hu
       ·exact⟨_,_,_,rfl⟩
      ·exact⟨_,_,_,rfl⟩
     len:=by show(yy 0 c q qs).length=(yy [] c q e.S).length;rw [oX,oX];exact hl
     row:=λi hi=>by
      have hi:i<(yy [] c q e.S).length:=hi;rw [oX] at hi;show yn _ ((yy 0 c q qs).getD i 0) m ((yy [] c q e.S).getD i []);rw [gj 0 za za,gj [] za za];by_cases h1:i=c
      ·rw [if_pos h1,if_pos h1];exact b5 q za
      ·rw [if_neg h1,if_neg h1];by_cases h2:i=q
       ·rw [if_pos h2,if_pos h2];exact b5 c za
       ·rw [if_neg h2,if_neg h2];exact b5 i hi
     lo:=λq9 h9=>h.rows.lo q9 (d.mem_iff.1 h9)
     nd:=d.nodup_iff.2 h.rows.nd}
    times:=b2
    perm:=b3
    rsd:=b4
    tq:=λq9 h9 h8=>h.tq q9 h9 (d.mem_iff.1 h8)}
theorem zF.timeAt (h:zF w g m e A n cA (some ad) k cB D l cD x0 x1 x2 qs){i:Nat}(hi:i<k):ad=⟨ad.block,0,none⟩/\∃(b:Bool) (B:ze) (p d:Nat) (F:ze) (u v:Nat),w.cell? ⟨ad.block,i*3,none⟩=some (.bool b)/\w.cell? ⟨ad.block,i*3+1,none⟩=some (.slice B p d)/\w.cell? ⟨ad.block,i*3+2,none⟩=some (.slice F u v)/\zp w (e.T.getD i 0) b B p d F u v:=by
 obtain⟨us,hu⟩:=h.times;obtain⟨cur,h1,_⟩:=hu.open;refine⟨h1,?_⟩;obtain⟨A',c',e1,hv,_⟩:=hu.shape;have hk:=h.hk;injection e1 with a1 a2 a3;subst a1;obtain⟨ae,b,B,p,d,F,u,v,e9,_,q0,q1,q2,hx⟩:=hv.num i _ (vi (d:=0) za);injection e9 with e9;subst e9;rw [h1,wu] at q0 q1 q2;exact⟨b,B,p,d,F,u,v,q0,q1,q2,hx⟩
theorem zF.timePut (h:zF w g m e A n cA (some ad) k cB D l cD x0 x1 x2 qs){i:Nat}(hi:i<k){x:Rat}{b:Bool}{B F:ze}{p d u v:Nat}(hx:zp w x b B p d F u v):
  zF (((w.setCell ⟨ad.block,i*3,none⟩ (.bool b)).setCell ⟨ad.block,i*3+1,none⟩ (.slice B p d)).setCell ⟨ad.block,i*3+2,none⟩ (.slice F u v)) g m {e with T:=e.T.set i x} A n cA (some ad) k cB D l cD x0 x1 x2 qs/\zp (((w.setCell ⟨ad.block,i*3,none⟩ (.bool b)).setCell ⟨ad.block,i*3+1,none⟩ (.slice B p d)).setCell ⟨ad.block,i*3+2,none⟩ (.slice F u v)) x b B p d F u v/\
  ∀{y:Rat} {b':Bool} {B' F':ze} {p' d' u' v':Nat},zp w y b' B' p' d' F' u' v'->zp (((w.setCell ⟨ad.block,i*3,none⟩ (.bool b)).setCell ⟨ad.block,i*3+1,none⟩ (.slice B p d)).setCell ⟨ad.block,i*3+2,none⟩ (.slice F u v)) y b' B' p' d' F' u' v':=by
 obtain⟨us,hu⟩:=h.times;obtain⟨s,j⟩:=hu.put yt hi hx;have ht:=((ya.set_ ad.block (i*3) w (.bool b)).trans (ya.set_ ad.block (i*3+1) _ (.slice B p d))).trans (ya.set_ ad.block (i*3+2) _ (.slice F u v));have c:(Value.slice (some ad) k cB).ownBlock=some ad.block:=by
  obtain⟨cur,h1,_⟩:=hu.open;rw [h1];rfl
 obtain⟨b1,b2,b3,b4⟩:=h.turnB c ht;obtain⟨_,cs,a,o⟩:=h.atB c;exact⟨{blk:=b1,hn:=h.hn,hk:=by show(e.T.set i x).length=k;rw [QV];exact h.hk,hl:=h.hl,rows:=b2,times:=⟨s,j⟩,perm:=b3,rsd:=b4,tq:=h.tq},vM a (tH o) ht.1 hx,λhy=>vM a (tH o) ht.1 hy⟩
theorem zF.permPut {gD:Nat}(h:zF w g m e A n cA B k cB (some ⟨gD,0,none⟩) l cD x0 x1 x2 qs){i x:Nat}(hi:i<l):zF (w.setCell ⟨gD,i,none⟩ (.int .i64 (x:Int))) g m {e with P:=e.P.set i x} A n cA B k cB (some ⟨gD,0,none⟩) l cD x0 x1 x2 qs:=by
 obtain⟨b1,b2,b3,b4⟩:=h.turnD (q:=gD) rfl (ya.set_ gD i w (.int .i64 (x:Int)));exact{blk:=b1,hn:=h.hn,hk:=h.hk,hl:=by show(e.P.set i x).length=l;rw [QV];exact h.hl,rows:=b2,times:=b3,perm:=h.perm.put hi,rsd:=b4,tq:=h.tq}
theorem zF.newRd {r:Rat}{z0 z1 z2:Value}(h:zF w g m e A n cA B k cB D l cD x0 x1 x2 qs)(hp:RV w r z0 z1 z2):zF (((w.setCell ⟨g,3,none⟩ z0).setCell ⟨g,4,none⟩ z1).setCell ⟨g,5,none⟩ z2) g m {e with rd:=r} A n cA B k cB D l cD z0 z1 z2 qs:=by
 have ht:=((ya.set_ g 3 w z0).trans (ya.set_ g 4 _ z1)).trans (ya.set_ g 5 _ z2);obtain⟨b1,b2,b3,b4⟩:=h.store (A':=A) (n':=n) (cA':=cA) (B':=B) (k':=k) (cB':=cB) (D':=D) (l':=l) (cD':=cD) ht;exact{blk:=((h.blk.set_ 3 z0).set_ 4 z1).set_ 5 z2,hn:=h.hn,hk:=h.hk,hl:=h.hl,rows:=b1,times:=b2,perm:=b3,rsd:=hp.off h.blk h.nok ht.1,tq:=h.tq}
end
theorem UD {P:Program}(w:World)(dT sT ty k:TypeId)(g o d n:Nat)(a:Addr)(m y:Nat)(c:Array Value)(t:TypeId)(cs:List Value)
  (hu:P.underlying dT=some (.slice k)) (hs:(P.info? k).map (·.size)=some 3)
  (hg:w.heap[g]?=some (.cells c t (0,0))) (hn:cs.length=Nat.min m d*3)
  (u:∀j v,cs[j]?=some v->w.cell? (a.add j)=some v) (s:o+cs.length<=c.size) (h1:∀v ∈ cs,v.oneCell'=true):
  (Builtin.copy_ #[dT,sT] ty #[.slice (some ⟨g,o,none⟩) d n,.slice (some a) m y]).run P w =
    .ok (goInt (Nat.min m d)) (w.setRow g (c.toList.take o++cs++c.toList.drop (o+cs.length)).toArray):=by
 have hl:=run_loadCells_list (P:=P) w a cs u;have z:=run_storeCells_at P g o t cs 0 c w hg (by simpa using s) h1;cases hq:P.info? k with
 |none=>simp [hq] at hs
 |some i=>
   have hi:i.size=3:=by simpa [hq] using hs
   simp [Builtin.copy_,run_underlying hu,Builtin.lenOf,Builtin.firstCells,sizeOf,typeInfo,hq,hi,<-hn,hl,z]
theorem yn.copied {q c1 g9 d:Nat}{L zs:List Rat}(hv:yn w q n L)(hz:yn w g9 k zs)(hk:c1+k=n)(hn9:n<=1048576)(dT sT ty:TypeId)(hu:prog.underlying dT=some (.slice 54)):
  ∃w',(Builtin.copy_ #[dT,sT] ty #[.slice (some ⟨q,c1*3,none⟩) k d,.slice (some ⟨g9,0,none⟩) k k]).run prog w=.ok (goInt k) w'/\ya q w w'/\yn w' q n (L.take c1++zs)/\(∀j,j<c1*3->w'.cell? ⟨q,j,none⟩=w.cell? ⟨q,j,none⟩)/\∀(w0:World) (B0:Nat),B0<=q->Below B0 w0 w->Below B0 w0 w':=by
 obtain⟨i0,C,hz0,E,hz2⟩:=info_parts gm;obtain⟨cs,a,t,hsz⟩:=hv.blk;obtain⟨vs,v1,v2,v3,v4,v5⟩:=zZ.cells (wE hz);have o:Nat.min k k=k:=Nat.min_self k;have hr:=UD (P:=prog) w dT sT ty 54 q (c1*3) k d ⟨g9,0,none⟩ k k cs 54 vs hu (by rw [C];simp [E]) a (by rw [o];exact v1) v2 za v3;rw [o] at hr;have y:cs.toList.length=n*3:=by rw [XE];exact hsz
 obtain⟨new,s⟩:∃new,(cs.toList.take (c1*3)++vs++cs.toList.drop (c1*3+vs.length)).toArray=new:=⟨_,rfl⟩;rw [s] at hr;have ht:ya q w (w.setRow q new):=ya.row a;have c:zh (w.setRow q new) q 54 new:=setRow_heap w q cs new _ _ a;have g:new.toList=cs.toList.take (c1*3)++vs:=by
  rw [<-s];show _++_++_=_;rw [List.drop_eq_nil_of_le za,List.append_nil]
 have z:(cs.toList.take (c1*3)).length=c1*3:=by rw [qL,y];omega
 have a1:∀j,j<c1*3->new[j]?=cs[j]?:=λj hj=>by
  rw [<-QR,g,QH za,xI,if_pos hj,QR]
 have a2:∀j,new[c1*3+j]?=vs[j]?:=λj=>by
  rw [<-QR,g,QJ za,z,show c1*3+j - c1*3=j by omega]
 have hc:∀j,j<c1*3->(w.setRow q new).cell? ⟨q,j,none⟩=w.cell? ⟨q,j,none⟩:=λj hj=>by rw [c.cell,a.cell,a1 j hj]
 refine⟨_,hr,ht,⟨by rw [qT,qL,hv.len,hz.len];omega,⟨new,c,?_,?_⟩,λi x hi=>?_⟩,hc,λw0 B0 hB hb=>hb.trans ⟨rfl,rfl,rfl,zG,λk hk=>setRow_other w q k new za⟩⟩
 ·intro u A k9 z9;rw [g] at A;rcases List.mem_append.1 A with h|h
  ·exact t u (XZ h) k9 z9
  ·exact v4 u h k9 z9
 ·rw [<-XE,g,qT,z,v1];omega
 ·have D:(L.take c1).length=c1:=by rw [qL,hv.len];omega
  by_cases hlt:i<c1
  ·rw [QH za,xI,if_pos hlt] at hi;obtain⟨b,B,m,d',F,u,v,h1,h2,h3,h4⟩:=hv.num i x hi;exact⟨b,B,m,d',F,u,v,(hc _ za).trans h1,(hc _ za).trans h2,(hc _ za).trans h3,vM a (tH t) ht.1 h4⟩
  ·rw [QJ za,D] at hi;obtain⟨b,B,m,d',F,u,v,h1,h2,h3,h4⟩:=v5 _ x hi;refine⟨b,B,m,d',F,u,v,?_,?_,?_,vM a (tH t) ht.1 h4⟩
   ·rw [c.cell,show i*3=c1*3+(i - c1)*3 by omega,a2];exact h1
   ·rw [c.cell,show i*3+1=c1*3+((i - c1)*3+1) by omega,a2];exact h2
   ·rw [c.cell,show i*3+2=c1*3+((i - c1)*3+2) by omega,a2];exact h3
theorem V6 {P:Program}{w':World}{o:Oper}{a:Act}{K:Act->World->Prop}{Q:Exit->Act->World->Prop}(s x:Operand)(dT sT:TypeId){v u r:Value}
  (ho:o.op=.call {callee:=.builtin .copy,args:=#[s,x],argTypes:=#[dT,sT]}) (hs:a.eval s=v) (hx:a.eval x=u) (hr:(Builtin.copy_ #[dT,sT] o.type #[v,u]).run P w=.ok r w') (h:K (a.put o.dst r) w'):Oper.wp P o a w K Q:=by
 unfold Oper.wp execOp;simp only [ho,resolve,invoke,builtin,Sem.run_bind,Sem.run_pure,Result.andThen_ok,YQ,yV,List.map_nil,hs,hx,hr];exact h
def va (c:Nat)(S:List (List Rat))(i:Nat):List (List Rat):=S.mapIdx λj row=>if c<j/\j<c+1+i then uL c (zK (zn S) c) row (S.getD c []) else row
theorem dN (hj:j<S.length):(va c S i)[j]?=some (if c<j/\j<c+1+i then uL c (zK (zn S) c) (S.getD j []) (S.getD c []) else S.getD j []):=by
 unfold va;rw [List.getElem?_mapIdx,qY hj];show some (if c<j/\j<c+1+i then _ else _)=_;rw [show S.getD j []=S[j] by rw [qQ,qY hj];rfl]
theorem VS (hj:j<S.length):(va c S i).getD j []=if c<j/\j<c+1+i then uL c (zK (zn S) c) (S.getD j []) (S.getD c []) else S.getD j []:=by
 rw [qQ,dN hj];rfl
theorem gN (c:Nat)(S:List (List Rat))(i:Nat):(va c S i).length=S.length:=by unfold va;rw [List.length_mapIdx]
theorem VE (c:Nat)(S:List (List Rat)):va c S 0=S:=by
 apply List.ext_getElem?;intro j;by_cases hj:j<S.length
 ·rw [dN hj,if_neg za,vi (d:=[]) hj]
 ·rw [QE (by rw [gN];omega),QE za]
theorem VR {c:Nat}(hn:S.length=n){i:Nat}(hi:n<=c+1+i):va c S i=vk c S:=by
 apply List.ext_getElem?;intro j;by_cases hj:j<S.length
 ·rw [dN hj,vi (d:=[]) (by unfold vk;rw [List.length_mapIdx];exact hj:j<(vk c S).length),Yt hj];by_cases e:c<j
  ·rw [if_pos e,if_pos ⟨e,za⟩]
  ·rw [if_neg e,if_neg λx=>e x.1]
 ·rw [QE (by rw [gN];omega),QE (by unfold vk;rw [List.length_mapIdx];omega)]
theorem Px (hi:c+1+i<S.length):(va c S i).set (c+1+i) (uL c (zK (zn S) c) (S.getD (c+1+i) []) (S.getD c []))=va c S (i+1):=by
 apply List.ext_getElem?;intro j;by_cases hj:j<S.length
 ·rw [dN hj,List.getElem?_set,dN hj];by_cases e:c+1+i=j
  ·subst e;rw [if_pos rfl,if_pos (by rw [gN];exact hi),if_pos ⟨za,za⟩]
  ·rw [if_neg e];by_cases e2:c<j/\j<c+1+i
   ·rw [if_pos e2,if_pos ⟨e2.1,za⟩]
   ·rw [if_neg e2,if_neg λx=>e2 ⟨x.1,za⟩]
 ·rw [QE (by rw [QV,gN];omega),QE (by rw [gN];omega)]
theorem Yj (hj:j<S.length)(h:j<=c):(va c S i).getD j []=S.getD j []:=by rw [VS hj,if_neg za]
theorem NF (hn:S.length=n)(hc:c<n):zK (zn (va c S i)) c=zK (zn S) c:=by
 unfold zK
 split
 ·rfl
 ·unfold zn;rw [Yj za za]
theorem NE (hn:S.length=n)(hc:c<n):zn (va c S i) c c=zn S c c:=by unfold zn;rw [Yj za (qX c)]
theorem Qk (h:zQ S n n)(hc:c<n):zQ (va c S i) n n:=by
 refine⟨by rw [gN];exact h.rows,λL hL=>?_⟩;unfold va at hL;obtain⟨j,hj,rfl⟩:=List.mem_mapIdx.1 hL
 split
 ·exact aG (h.cols _ (xM _)) (h.row hc) hc
 ·exact h.cols _ (xM _)
theorem Pw {c1:Nat}{p:Rat}{row by_:List Rat}(hc:c+1=c1):uL c p row by_=row.take c1++zT p⁻¹ (uN (zT (by_.getD c 0) (row.drop c1)) (-row.getD c 0) (by_.drop c1)):=by subst hc;rfl
def sR (a:Addr)(k c:Nat):Addr:=if c=k then a else a.add (k*3)
theorem oh {a:Addr}(hk:k<=n)(hc:n<=c):Sem.run prog (Instr.slice 58 (.slice (some a) n c) (some (.int .i64 (k:Int))) none none) w=.ok (.slice (some (sR a k c)) (n - k) (c - k)) w:=by
 obtain⟨i1',g,hz10,d,hz12⟩:=info_parts gm;have h1:(0:Int)<=(k:Int):=za;have h2:(k:Int)<=(n:Int):=za;unfold sR;by_cases e:c=k
 ·have e2:n=k:=za;subst e;subst e2;simp [Instr.slice,Instr.sliceBounds,Instr.sliceBound,asIntOf,run_underlying underlying58,sizeOf,typeInfo,g,d,go_sem]
 ·rw [if_neg e];have e3:¬ c=k:=e;simp [Instr.slice,Instr.sliceBounds,Instr.sliceBound,asIntOf,run_underlying underlying58,sizeOf,typeInfo,g,d,go_sem,e3,h1,h2];intro h9;omega
theorem lm {a:Act}{o:Oper}{y:Nat}(ho:o.op=.slice 58 (.tmp x) (some (.tmp y)) none none)(hx:a.eval (.tmp x)=.slice (some ad) n c)(hy:a.eval (.tmp y)=.int .i64 (k:Int))(hk:k<=n)(hc:n<=c):Sem.run prog (execOp a.eval o) w=.ok (.value (.slice (some (sR ad k c)) (n - k) (c - k))) w:=by
 unfold execOp;rw [ho];simp only [Option.map,hx,hy];simp [oh hk hc,go_sem]
theorem Ze (h:z7 w (some ad) n c xs)(hk:k<=n):z7 w (some (sR ad k c)) (n - k) (c - k) (xs.drop k):=
 ⟨by rw [xK,h.len],by have:=h.fits;omega,by have:=h.most;omega,λi x hi=>by
  rw [yW] at hi;have hlt:k+i<n:=by have:=(List.getElem?_eq_some_iff.1 hi).1;have:=h.len;omega
  have h9:=h.num _ _ hi;have hf:=h.fits;have e:sR ad k c=ad.add (k*3):=if_neg za;rw [e];obtain⟨ad',b,B,m,d,F,u,v,e1,h1,h2,h3,h4,h5⟩:=h9;injection e1 with e1;subst e1;refine⟨_,b,B,m,d,F,u,v,rfl,by rw [yw];exact h1,?_,?_,?_,h5⟩
  ·rw [jb,<-QN];exact h2
  ·rw [jb,show k*3+(i*3+1)=(k+i)*3+1 by omega];exact h3
  ·rw [jb,show k*3+(i*3+2)=(k+i)*3+2 by omega];exact h4⟩
section
variable {ops:Array Oper}{Q:Exit->Act->World->Prop}{S:World->Prop}{fuel:Nat}{l:Array Bool}{a:Act}{w:World}
theorem eY (i:Nat){o:Oper}{a':Act}{x y:Nat}{ad:Addr}{n c k:Nat}(hn:wpAnyH prog .any ops (NoPanic Q) S fuel (l.setIfInBounds i true) a' w)(h1:ops[i]?=some o:=by simp only [QD,qA,qN];rfl)(ho:o.op=.slice 58 (.tmp x) (some (.tmp y)) none none:=by rfl)(hx:a.eval (.tmp x)=.slice (some ad) n c:=by rfl)(hy:a.eval (.tmp y)=.int .i64 (k:Int):=by rfl)(hk:k<=n:=by omega)(hc:n<=c:=by omega)(h2:Region.noSelect ops=true:=by kernel_rfl)(h3:Region.free .any ops l i=true:=by kernel_rfl)(h4:(Region.ready .any ops l).contains i=true:=by kernel_rfl)(h5:Region.wanted o (yielded ops a.tmps)=true:=by rfl)(hS:S w:=by with_reducible assumption)(ha:a.put o.dst (.slice (some (sR ad k c)) (n - k) (c - k))=a':=by(simp only [zI];try rfl)):wpAnyH prog .any ops (NoPanic Q) S (fuel+1) l a w:=
 wpAnyH_take h1 h2 h3 h4 (λ_ _ _ h=>h) (Or.inl ⟨h5,λw hs=>lm ho hx hy hk hc⟩) hS (ha▸hn)
end
theorem uH.below {W':World}{R:rl}(h:uH W A n c R)(hb:Below W.heap.size W W'):uH W' A n c R:=⟨h.fits,h.small,λr hr=>by
 obtain⟨ad,e,h1,h2,h3⟩:=h.row r hr;exact⟨ad,e,qJ h1 hb.size,zq hb h2,h3.below hb⟩⟩
theorem uH.pre {R:rl}(h:uH W A n c R)(hk:k<=n):uH W A k c R:=⟨qD hk h.fits,h.small,λr hr=>h.row r za⟩
