/- What this claim leans on. -/
import Derived.Test.YtielpgdebeggbaaGreatDoorWMArgs
set_option linter.unusedVariables false
set_option linter.unusedSimpArgs false
namespace Go.Proofs.YtielpgdebeggbaaGreatDoor
open Go Go.RowKit Go.Proofs.Tryz
set_option maxHeartbeats 16000000
set_option maxRecDepth 100000
variable {ad:Addr}{S:List (List Rat)}{ld qs:List Nat}{L:List Rat}{K a c cD g gA gc i j k m n:Nat}{w:World}
theorem xz.hangs {α:Type}{R:RP α}{wo W2 wr:World}{t:TypeId}{Ls:List (List α)}(h:xz R wo t g n Ls)(h2:Below wo.heap.size wo W2)(hi:i<n)(hb:Below wo.heap.size (W2.setCell ⟨g,i,none⟩ (.slice (some ⟨wo.heap.size,0,none⟩) m m)) wr):wr.cell? ⟨g,i,none⟩=some (.slice (some ⟨wo.heap.size,0,none⟩) m m):=by
 obtain⟨cs,hk,h1,h3⟩:=h.blk;have a:=((zg h2 hk).set_ i (.slice (some ⟨wo.heap.size,0,none⟩) m m)).below hb hk.lt;rw [a.cell,qM zb]
theorem xz.put {α:Type}{R:RP α}(hR:uZ R){wo W2 wr:World}{t:TypeId}{g n i m:Nat}{Ls:List (List α)}{L:List α}(h:xz R wo t g n Ls)(h2:Below wo.heap.size wo W2)(hi:i<n)(hb:Below wo.heap.size (W2.setCell ⟨g,i,none⟩ (.slice (some ⟨wo.heap.size,0,none⟩) m m)) wr)(hx:R wr (some ⟨wo.heap.size,0,none⟩) m m L)(hm:L.length=m):xz R wr t g n (Ls.set i L):=by
 subst hm;obtain⟨cs,hk,h1,h3⟩:=h.blk;have c:=hk.lt;have a:=((zg h2 hk).set_ i (.slice (some ⟨wo.heap.size,0,none⟩) L.length L.length)).below hb c;have hs:=h2.size;have ho:zP g wo wr:=⟨by have:=hb.size;simp at this;omega,λp hp hq=>((hb.cell hp).trans ((zP.of_far ((yb.refl g W2).set_ i _)).2 p zb hq)).trans (h2.cell hp)⟩;have hc:wr.cell? ⟨g,i,none⟩=some (.slice (some ⟨wo.heap.size,0,none⟩) L.length L.length):=by rw [a.cell,qM zb]
 refine⟨by rw [QX];exact h.len,⟨_,a,?_,by simp;exact h3⟩,λj y hj=>?_⟩
 ·intro u hu;rw [QD] at hu;rcases QW hu with hu|rfl
  ·exact h1 u hu
  ·exact⟨_,_,_,rfl⟩
 ·by_cases hij:i=j
  ·subst hij;have hl:=h.len;rw [XY zb] at hj;injection hj with hj;subst hj;exact⟨_,_,hc,hx⟩
  ·rw [XZ hij] at hj;obtain⟨B',d',c1,c2⟩:=h.num j y hj;refine⟨B',d',?_,hR.offS c2 hk h1 ho⟩;rw [a.cell,qK zb,<-hk.cell];exact c1
theorem Wt (f:Nat->Nat->Rat)(F:FuncId)(cap:Array Value)(n:Nat)(w:World)(hG:mR f F cap n n w)(hn:n<=64:=by omega):
  Calls prog 92 #[.int .i64 (n:Int),.func (.func F) #[] cap] w (jW w n (yp n n f)):=by
 obtain⟨hEn,hF⟩:=hG;have HF:=za hF;have C:=za (fu n n f);have B:zd (∀r,r<n->(yp n n f)[r]?=some ((List.range n).map (f r))):=λr hr=>dG f hr;have U:zd (∀r c,c<n->((List.range n).map (f r))[c]?=some (f r c)):=λr c hc=>Xv (f r) hc;have V:zd (∀r,((List.range n).map (f r)).length=n):=λr=>Xw n (f r);obtain⟨u,z⟩:∃u:Nat->List Rat,(λr=>(List.range n).map (f r))=u:=⟨_,rfl⟩;have t:∀r,(List.range n).map (f r)=u r:=λr=>by rw [<-z]
 simp only [t] at B U V;obtain⟨M,hM⟩:∃M,yp n n f=M:=⟨_,rfl⟩;rw [hM] at C B⊢;obtain⟨Z,hZ⟩:=oM n zb;have HMK:∀W,(Instr.makeSlice 41 (.int .i64 (n:Int)) (.int .i64 (n:Int))).run prog W=.ok (.slice (some ⟨W.heap.size,0,none⟩) n n) (W.alloc (.cells Z 52)):=λW=>(hZ W).1;have X:=za (λW=>(hZ W).2);obtain⟨Y,hY⟩:=aS n zb;have HMKV:∀W,(Instr.makeSlice 26 (.int .i64 (n:Int)) (.int .i64 (n:Int))).run prog W=.ok (.slice (some ⟨W.heap.size,0,none⟩) n n) (W.alloc (.cells Y 41)):=λW=>(hY W).1;have a:=(hY w).2;have d:Below w.heap.size w (w.alloc (.cells Y 41)):=(qZ _ w).alloc (qX _) _;rw [<-tV [] M n] at a;clear hF z t hM hZ hY;unfold jW;have i0:(0:Int)<=(n:Int):=zb;go_enter func92,ntmps92;go_wp2_with fail;obtain⟨g0,ad⟩:∃g,w.heap.size=g:=⟨_,rfl⟩;have ag:w.heap.size<=g0:=zb;rw [ad] at a⊢;generalize w.alloc (.cells Y 41)=W1 at*;clear ad
 go_loopg [12] (n+1) (λg ix wr=>∃(k:Nat),k<=n/\n<g+k/\ix=.int .i64 k/\xz (z8 zo) wr 41 g0 n (wX [] M n k)/\Below w.heap.size w wr)
 case atStart=>exact⟨0,qW _,zb,rfl,a,d⟩
 case round=>
  clear a d;obtain⟨k,hkn,hg,rfl,a,hB⟩:=hrel;obtain⟨wo,aq⟩:∃wo,wo=wr:=⟨_,rfl⟩;subst aq;by_cases hlt:k<n
  ·have ao:decide ((k:Int)<(n:Int))=true:=decide_eq_true zb;have i2:(0:Int)<=(k:Int):=zb;have i3:(k:Int)<(n:Int):=zb;have y:=za (U.o k);have i:=za (V.o k);have v:=za (B.o k hlt);obtain⟨R,hR⟩:∃R,u k=R:=⟨_,rfl⟩;rw [hR] at y i v;have h:=X.o wo;have d:Below wo.heap.size wo (wo.alloc (.cells Z 52)):=(qZ _ wo).alloc (qX _) _;have K:=a.below (y7 zZ) d;obtain⟨q0,P,Q⟩:=K.ready hlt;obtain⟨cs,ae,ac,-⟩:=K.blk;have J:wo.heap.size≠g0:=by have:=a.lt;omega
   have h:yh _ wo.heap.size n _:=yh.turn h (zJ.set_ g0 k _ (.slice (some ⟨wo.heap.size,0,none⟩) n n)) ae (oP ac) J;rw [<-tV 0 R n] at h;have m:=za a;have S:=za d;have al:=za J;have HB:=za (zM (p:=⟨g0,k,none⟩) (.slice (some ⟨wo.heap.size,0,none⟩) n n) ag (zc hB d));have ab:=za hB.size;clear a hB d K ae ac J hR;go_wp2_with fail;clear P Q;obtain⟨W3,H⟩:∃W3,(wo.alloc (.cells Z 52)).setCell ⟨g0,k,none⟩ (.slice (some ⟨wo.heap.size,0,none⟩) n n)=W3:=⟨_,rfl⟩;have G:=za H;rw [H] at h HB⊢;have ak:=za (λwr (hb:Below wo.heap.size W3 wr)=>m.o.hangs S.o hlt (by rw [G.o];exact hb));have aa:=za (λwr (hb:Below wo.heap.size W3 wr) (hx:zR wr (some ⟨wo.heap.size,0,none⟩) n n R)=>xz.put (y7 zZ) m.o S.o hlt (by rw [G.o];exact hb) hx i.o);clear H G
   go_loopg [21] (n+1) (λg jx wr=>∃(j:Nat),j<=n/\n<g+j/\jx=.int .i64 j/\yh wr wo.heap.size n (wX 0 R n j)/\Below wo.heap.size W3 wr)
   case atStart=>exact⟨0,qW _,zb,rfl,h,qZ _ _⟩
   case round=>
    clear h;obtain⟨j,hjm,hg2,rfl,h,d⟩:=hrel;have o:=za h;by_cases hjl:j<n
    ·have ap:decide ((j:Int)<(n:Int))=true:=decide_eq_true zb;have i4:(0:Int)<=(j:Int):=zb;have i5:(j:Int)<(n:Int):=zb;have aj:=za (y.o j hjl);have p0:=ak.o _ d;have E:zd (wo.heap.size<wr.heap.size):=h.lt;have T:=za d.drew;clear h d;go_wp2_with fail;have I:=(qZ wr.heap.size wr).drew;refine rg (zk p0 zQ) (λhHeld=>?_);clear p0;have o:=za (o.o.keep I);have E:=za (qJ E.o I.size);clear I;generalize wr.drew=D at*;refine tk 0 ?_;refine tk 1 ?_;refine tk 2 ?_;refine tk 3 ?_;refine tk 4 ?_;refine tk 5 ?_;refine tk 6 ?_;refine tk 7 ?_;refine rc 8 (λKK s=>?_);go_simp;refine(HF.o k j hlt hjl _ (HB.o.trans (T.o.mono ab.o))).mono ?_;rintro e w3 ⟨b3,A3,n3,c3,E3,k3,f3,rfl,af,hb⟩;refine s.out _ _ (Cs.below hHeld hb) (λhHeld=>?_);have L:=o.o.keep hb;have N:=wn.set_ zZ L hjl af;rw [tX 0 R n j i.o hjl _ aj.o] at N;obtain⟨q0,q1,q2,P,Q,ar,av,au,aw⟩:=L.ready hjl (.bool b3) (.slice A3 n3 c3);have am:=za N;have ah:=za ((((T.o.trans (hb.mono (qG E.o))).setCell (p:=⟨wo.heap.size,j*3,none⟩) (qX _) (.bool b3)).setCell (p:=⟨wo.heap.size,j*3+1,none⟩) (qX _) (.slice A3 n3 c3)).setCell (p:=⟨wo.heap.size,j*3+2,none⟩) (qX _) (.slice E3 k3 f3));have A:=(((yb.refl wo.heap.size w3).set_ (j*3) (.bool b3)).set_ (j*3+1) (.slice A3 n3 c3)).set_ (j*3+2) (.slice E3 k3 f3);clear L N hb af o s KK;refine tk 9 ?_;refine rc 10 (λKK s=>?_);go_simp;refine s.out _ _ (Cs.far hHeld A ⟨Ne.symm al.o,trivial⟩) (λhHeld=>?_);clear s KK P Q ar av au aw A;refine zN ?_;clear hHeld;go_wp2;go_roundg (n - j)
     case measure=>omega
     case rel=>exact⟨j+1,zb,zb,by go_num,am.o,ah.o⟩
    ·have hj:j=n:=zb;subst hj;have ap:decide ((j:Int)<(j:Int))=false:=zA;have O:=aa.o _ d (xe (tW 0 R j i.o▸o.o));rw [tX [] M j k C.o hlt _ v.o] at O;have an:=za O;have ai:=za (HB.o.trans (d.mono ab.o));clear h d O o;go_wp2;go_roundg (j - k)
     case measure=>omega
     case rel=>exact⟨k+1,zb,zb,by go_num,an.o,ai.o⟩
  ·have hk:k=n:=zb;subst hk;have ao:decide ((k:Int)<(k:Int))=false:=zA;have m:=za (tW [] M k C.o▸a);have HB:=za hB;clear a hB;go_wp2;go_ret;exact⟨g0,rfl,ag,m.o,HB.o⟩
theorem mF {q:Nat}:uz m (yq 0 c q qs)=((uz m qs).set c (.slice (some ⟨qs.getD q 0,0,none⟩) m m)).set q (.slice (some ⟨qs.getD c 0,0,none⟩) m m):=by
 unfold uz yq;rw [List.map_set,List.map_set]
theorem ws.open {l:Nat}(h:ws w c (.slice (some ⟨g,0,none⟩) l cD) ld):∃a:Array Value,c<=g/\l=ld.length/\zh w g 3 a/\l<=cD/\cD<=maxLen/\a.size=cD/\a.toList.take l=vj ld/\∀u ∈ a.toList,lN u:=by
 rcases h.own.2 with⟨e,_⟩|⟨g',cap,a,e1,e2,e3,e4,e5,e6,e7⟩
 ·cases e
 ·injection e1 with a1 a2 a3;injection a1 with a1;injection a1 with a1;subst a1 a2 a3;obtain⟨d,s,h1,h2⟩:=h.pr g rfl;have hc:d=a:=by rw [e3] at h1;injection h1 with h1;injection h1 with h1 _;exact h1.symm
  subst hc;exact⟨d,e2,rfl,e3,e4,e5,zb,by rw [<-e7,xV],h2⟩
theorem ws.put {l x:Nat}(h:ws w a (.slice (some ⟨g,0,none⟩) l cD) ld)(hi:i<l):ws (w.setCell ⟨g,i,none⟩ (.int .i64 (x:Int))) a (.slice (some ⟨g,0,none⟩) l cD) (ld.set i x):=by
 obtain⟨cur,h1,h2,h3,h4,h5,h6,h7,h8⟩:=h.open;have hk:=h3.set_ i (.int .i64 (x:Int));refine⟨⟨by unfold vj;rw [QH,xV],.inr ⟨g,cD,_,by rw [QX,<-h2],h1,hk,by rw [QX,<-h2];exact h4,h5,by simp;exact h6,?_⟩⟩,λq e=>?_⟩
 ·rw [QX,<-h2,xV,QD,YV,h7];unfold vj;rw [List.map_set]
 ·simp [Value.ownBlock] at e;subst e;refine⟨_,_,hk,λu hu=>?_⟩;rw [QD] at hu;rcases QW hu with hu|rfl
  ·exact h8 u hu
  ·exact⟨_,rfl⟩
theorem ws.ready {l:Nat}(h:ws w a (.slice (some ⟨g,0,none⟩) l cD) ld)(hi:i<l):w.cell? ⟨g,i,none⟩=some (.int .i64 (ld.getD i 0:Nat))/\w.frozen? ⟨g,i,none⟩=false:=by
 obtain⟨cur,h1,h2,h3,h4,h5,h6,h7,h8⟩:=h.open;refine⟨?_,h3.frozen _⟩;have hc:=h.own.cells (g:=g) rfl i (.int .i64 (ld.getD i 0:Nat)) (by unfold vj;rw [qN,qQ,qY zb];rfl);rw [xk] at hc;exact hc
section
variable {w:World}{g m:Nat}{e:yt}{n cA:Nat}{k cB:Nat}{l cD:Nat}{A B D:ze}{x0 x1 x2:Value}{qs:List Nat}{c q:Nat}
theorem zw.rowAt (h:zw w g m e (some ⟨gA,0,none⟩) n cA B k cB D l cD x0 x1 x2 qs){i:Nat}(hi:i<n):w.cell? ⟨gA,i,none⟩=some (.slice (some ⟨qs.getD i 0,0,none⟩) m m)/\w.frozen? ⟨gA,i,none⟩=false/\yh w (qs.getD i 0) m (e.S.getD i []):=by
 have hn:=h.hn;have hl:=h.rows.len;obtain⟨_,cs,hk,_⟩:=h.rows.at_ (q:=gA) rfl;have hc:=h.rows.own.cells (g:=gA) rfl i (.slice (some ⟨qs.getD i 0,0,none⟩) m m) (by
  unfold uz;rw [qN,qQ,qY zb];rfl)
 rw [xk] at hc;exact⟨hc,hk.frozen _,h.rows.row i zb⟩
theorem zw.exA (h:zw w g m e (some ⟨gA,0,none⟩) n cA B k cB D l cD x0 x1 x2 qs)(hc:c<n)(hq:q<n)(s:c≠q):
  (w.setCell ⟨gA,c,none⟩ (.slice (some ⟨qs.getD q 0,0,none⟩) m m)).cell? ⟨gA,q,none⟩=some (.slice (some ⟨qs.getD q 0,0,none⟩) m m)/\(w.setCell ⟨gA,c,none⟩ (.slice (some ⟨qs.getD q 0,0,none⟩) m m)).frozen? ⟨gA,q,none⟩=false/\
  zw ((w.setCell ⟨gA,c,none⟩ (.slice (some ⟨qs.getD q 0,0,none⟩) m m)).setCell ⟨gA,q,none⟩ (.slice (some ⟨qs.getD c 0,0,none⟩) m m)) g m {e with S:=yq [] c q e.S} (some ⟨gA,0,none⟩) n cA B k cB D l cD x0 x1 x2 (yq 0 c q qs):=by
 have hn:=h.hn;have hl:=h.rows.len;obtain⟨c1,_,_⟩:=h.rowAt hc;obtain⟨c2,_,_⟩:=h.rowAt hq;rcases h.rows.own.2 with⟨e9,_⟩|⟨g',cap,cur,e1,e2,e3,e4,e5,e6,e7⟩
 ·cases e9
 ·injection e1 with a1 a2 a3;injection a1 with a1;injection a1 with a1;subst a1 a3;have a:=zh.set_ e3 c (.slice (some ⟨qs.getD q 0,0,none⟩) m m);have hk2:=a.set_ q (.slice (some ⟨qs.getD c 0,0,none⟩) m m);have ht:=(zJ.set_ gA c w (.slice (some ⟨qs.getD q 0,0,none⟩) m m)).trans (zJ.set_ gA q _ (.slice (some ⟨qs.getD c 0,0,none⟩) m m));obtain⟨b1,b2,b3,b4,b5⟩:=h.turnA (q:=gA) rfl ht;obtain⟨j,s9,q1,q2⟩:=h.rows.sl gA rfl;have o:j=cur:=by rw [e3] at q1;injection q1 with q1;injection q1 with q1 _;exact q1.symm
  subst o;refine⟨?_,a.frozen _,?_⟩
  ·rw [a.cell,qK s,<-zh.cell e3];exact c2
  ·have d:=Zn (0:Nat) (r:=c) (q:=q) (L:=qs) zb zb;exact {
    blk:=b1
    hn:=by show(yq [] c q e.S).length=n;rw [og];exact hn
    hk:=h.hk
    hl:=h.hl
    rows:={
     own:=⟨by show(uz m (yq 0 c q qs)).length=(yq [] c q e.S).length*1;unfold uz;rw [QH,og,og,hl,xV],.inr ⟨gA,cA,_,by show _=Value.slice _ (yq [] c q e.S).length _;rw [og,hn],e2,hk2,by show(yq [] c q e.S).length<=_;rw [og];exact e4,e5,by simp;simpa using e6,by
      show _=_;rw [og,mF,QD,QD,YV,YV,e7]⟩⟩
     sl:=λq9 e9=>by
      simp [Value.ownBlock] at e9;subst e9;refine⟨_,_,hk2,λu hu=>?_⟩;rw [QD,QD] at hu;rcases QW hu with hu|rfl
      ·rcases QW hu with hu|rfl
       ·exact q2 u hu
       ·exact⟨_,_,_,rfl⟩
      ·exact⟨_,_,_,rfl⟩
     len:=by show(yq 0 c q qs).length=(yq [] c q e.S).length;rw [og,og];exact hl
     row:=λi hi=>by
      have hi:i<(yq [] c q e.S).length:=hi;rw [og] at hi;show yh _ ((yq 0 c q qs).getD i 0) m ((yq [] c q e.S).getD i []);rw [ju 0 zb zb,ju [] zb zb];by_cases h1:i=c
      ·rw [if_pos h1,if_pos h1];exact b5 q zb
      ·rw [if_neg h1,if_neg h1];by_cases h2:i=q
       ·rw [if_pos h2,if_pos h2];exact b5 c zb
       ·rw [if_neg h2,if_neg h2];exact b5 i hi
     lo:=λq9 h9=>h.rows.lo q9 (d.mem_iff.1 h9)
     nd:=d.nodup_iff.2 h.rows.nd}
    times:=b2
    perm:=b3
    rsd:=b4
    tq:=λq9 h9 h8=>h.tq q9 h9 (d.mem_iff.1 h8)}
theorem zw.timeAt (h:zw w g m e A n cA (some ad) k cB D l cD x0 x1 x2 qs){i:Nat}(hi:i<k):ad=⟨ad.block,0,none⟩/\∃(b:Bool) (B:ze) (p d:Nat) (F:ze) (u v:Nat),w.cell? ⟨ad.block,i*3,none⟩=some (.bool b)/\w.cell? ⟨ad.block,i*3+1,none⟩=some (.slice B p d)/\w.cell? ⟨ad.block,i*3+2,none⟩=some (.slice F u v)/\zo w (e.T.getD i 0) b B p d F u v:=by
 obtain⟨us,hu⟩:=h.times;obtain⟨cur,h1,_⟩:=hu.open;refine⟨h1,?_⟩;obtain⟨A',c',e1,hv,_⟩:=hu.shape;have hk:=h.hk;injection e1 with a1 a2 a3;subst a1;obtain⟨ae,b,B,p,d,F,u,v,e9,_,q0,q1,q2,hx⟩:=hv.num i _ (wy (d:=0) zb);injection e9 with e9;subst e9;rw [h1,xk] at q0 q1 q2;exact⟨b,B,p,d,F,u,v,q0,q1,q2,hx⟩
theorem zw.timePut (h:zw w g m e A n cA (some ad) k cB D l cD x0 x1 x2 qs){i:Nat}(hi:i<k){x:Rat}{b:Bool}{B F:ze}{p d u v:Nat}(hx:zo w x b B p d F u v):
  zw (((w.setCell ⟨ad.block,i*3,none⟩ (.bool b)).setCell ⟨ad.block,i*3+1,none⟩ (.slice B p d)).setCell ⟨ad.block,i*3+2,none⟩ (.slice F u v)) g m {e with T:=e.T.set i x} A n cA (some ad) k cB D l cD x0 x1 x2 qs/\zo (((w.setCell ⟨ad.block,i*3,none⟩ (.bool b)).setCell ⟨ad.block,i*3+1,none⟩ (.slice B p d)).setCell ⟨ad.block,i*3+2,none⟩ (.slice F u v)) x b B p d F u v/\
  ∀{y:Rat} {b':Bool} {B' F':ze} {p' d' u' v':Nat},zo w y b' B' p' d' F' u' v'->zo (((w.setCell ⟨ad.block,i*3,none⟩ (.bool b)).setCell ⟨ad.block,i*3+1,none⟩ (.slice B p d)).setCell ⟨ad.block,i*3+2,none⟩ (.slice F u v)) y b' B' p' d' F' u' v':=by
 obtain⟨us,hu⟩:=h.times;obtain⟨s,j⟩:=hu.put zZ hi hx;have ht:=((zJ.set_ ad.block (i*3) w (.bool b)).trans (zJ.set_ ad.block (i*3+1) _ (.slice B p d))).trans (zJ.set_ ad.block (i*3+2) _ (.slice F u v));have c:(Value.slice (some ad) k cB).ownBlock=some ad.block:=by
  obtain⟨cur,h1,_⟩:=hu.open;rw [h1];rfl
 obtain⟨b1,b2,b3,b4⟩:=h.turnB c ht;obtain⟨_,cs,a,o⟩:=h.atB c;exact⟨{blk:=b1,hn:=h.hn,hk:=by show(e.T.set i x).length=k;rw [QX];exact h.hk,hl:=h.hl,rows:=b2,times:=⟨s,j⟩,perm:=b3,rsd:=b4,tq:=h.tq},yy a (y3 o) ht.1 hx,λhy=>yy a (y3 o) ht.1 hy⟩
theorem zw.permPut {gD:Nat}(h:zw w g m e A n cA B k cB (some ⟨gD,0,none⟩) l cD x0 x1 x2 qs){i x:Nat}(hi:i<l):zw (w.setCell ⟨gD,i,none⟩ (.int .i64 (x:Int))) g m {e with P:=e.P.set i x} A n cA B k cB (some ⟨gD,0,none⟩) l cD x0 x1 x2 qs:=by
 obtain⟨b1,b2,b3,b4⟩:=h.turnD (q:=gD) rfl (zJ.set_ gD i w (.int .i64 (x:Int)));exact{blk:=b1,hn:=h.hn,hk:=h.hk,hl:=by show(e.P.set i x).length=l;rw [QX];exact h.hl,rows:=b2,times:=b3,perm:=h.perm.put hi,rsd:=b4,tq:=h.tq}
theorem zw.newRd {r:Rat}{z0 z1 z2:Value}(h:zw w g m e A n cA B k cB D l cD x0 x1 x2 qs)(hp:RV w r z0 z1 z2):zw (((w.setCell ⟨g,3,none⟩ z0).setCell ⟨g,4,none⟩ z1).setCell ⟨g,5,none⟩ z2) g m {e with rd:=r} A n cA B k cB D l cD z0 z1 z2 qs:=by
 have ht:=((zJ.set_ g 3 w z0).trans (zJ.set_ g 4 _ z1)).trans (zJ.set_ g 5 _ z2);obtain⟨b1,b2,b3,b4⟩:=h.store (A':=A) (n':=n) (cA':=cA) (B':=B) (k':=k) (cB':=cB) (D':=D) (l':=l) (cD':=cD) ht;exact{blk:=((h.blk.set_ 3 z0).set_ 4 z1).set_ 5 z2,hn:=h.hn,hk:=h.hk,hl:=h.hl,rows:=b1,times:=b2,perm:=b3,rsd:=hp.off h.blk h.nok ht.1,tq:=h.tq}
end
section
variable {w:World}
theorem RY:∀(args:Array Value) (w':World),Sem.run prog (callFunc 89 args) w'=.ok (.enter 89 args) w':=Go.Proofs.enters_of func89 ye rfl
theorem rq {d:Nat}{V:ze}(hT:zt w)(hk:zh w gc 3 #[.int .i64 (c:Int)])(hv:zR w V m d L)(hc:c<m)(hz:zE K L)(hK:K<=67108864:=by omega):
  Calls prog 89 #[.slice V m d,.pointer (some ⟨gc,0,none⟩)] w (λe w'=>e=.returned (.bool (!decide (L.getD c 0=0)))/\Below w.heap.size w w'):=by
 have g0:=hk.c1;have HS:=za (hz.at_ (k:=c) (by rw [hv.len];exact hc));obtain⟨ad,b1,B1,m1,d1,E1,u1,v1,rfl,-,h0,h1,h2,hx⟩:=hv.get (qZ _ _) hc;have i1:(0:Int)<=(c:Int):=zb;have i2:(c:Int)<(m:Int):=zb;have i3:c<m:=hc;generalize L.getD c 0=x at*;obtain⟨t,ht⟩:∃t,decide (x=0)=t:=⟨_,rfl⟩;rw [ht];have a:=za (iu ht hT hx HS.o hK);clear hk hv hz hx hc hT ht;go_enter func89,ntmps89;go_wp2_with fail;clear h0 h1 h2 g0;refine a.o.mono ?_;rintro eo w1 ⟨rfl,hb⟩;have HB:=za hb;clear hb a;go_wp2;go_ret;exact⟨rfl,HB.o⟩
theorem Xf {q:Nat}{Q:ze}{M:List (List Rat)}(hT:zt w)(h:yx (z8 zo) w Q n M)(hk:zh w gc 3 #[.int .i64 (c:Int)])(hc:c<m)(hd:∀L ∈ M,L.length=m)(hz:z7 K M)(hn:n<=1048576)(hK:K<=67108864:=by omega):
  Calls prog 88 #[.slice Q n q,.func (.func 89) #[] #[.pointer (some ⟨gc,0,none⟩)]] w (λe w'=>e=.returned (.int .i64 (vi c M))/\Below w.heap.size w w'):=by
 have hl:=h.len;have HR:=za h;have HT:=zj w (λw' hb=>hT.on hb);have HK:=zj w (λw' hb=>zg hb hk);have HD:zd (∀k,k<n->(M.getD k []).length=m):=λk hk=>hd _ (QJ (wy zb));have HZ:zd (∀k,k<n->zE K (M.getD k [])):=λk hk=>hz.row zb;have HI:zd (∀k,k<n->(∀j,j<k->(M.getD j []).getD c 0=0)->(M.getD k []).getD c 0≠0->vi c M=(k:Int)):=λk hk=>nH zb;have HN:zd ((∀j,j<n->(M.getD j []).getD c 0=0)->vi c M= -1):=λh0=>Qv (by rw [hl];exact h0);have hEn:=RY;have hB:=qZ w.heap.size w;have i0:(0:Int)<=(n:Int):=zb;have HC:=za hc;obtain⟨zi,y⟩:∃zi,vi c M=zi:=⟨_,rfl⟩;rw [y] at HI HN⊢;clear h hk hl hd hz hT hc y;go_enter func88,ntmps88;go_wp2_with fail
 go_loopg [8] (n+1) (λg ix wr=>∃(k:Nat),k<=n/\n<g+k/\ix=.int .i64 k/\zd (∀j,j<k->(M.getD j []).getD c 0=0)/\Below w.heap.size w wr)
 case atStart=>exact⟨0,qW _,zb,rfl,λj hj=>(by cases hj),hB⟩
 case round=>
  clear hB;obtain⟨k,hkn,hg,rfl,u,hB⟩:=hrel;by_cases hlt:k<n
  ·have C:decide ((k:Int)<(n:Int))=true:=decide_eq_true zb;have i1:(0:Int)<=(k:Int):=zb;have i2:(k:Int)<(n:Int):=zb;obtain⟨ad,B,d,rfl,-,v,hv⟩:=HR.o.get (y7 zZ) hB hlt (HD.o k hlt);have A:=za (HZ.o k hlt);have s:=za (HI.o k hlt u.o);have HB:=za hB;have t:zd ((M.getD k []).getD c 0=0->∀j,j<k+1->(M.getD j []).getD c 0=0):=λe j hj=>by
    rcases XQ j k with a|a
    ·exact u.o j a
    ·rw [show j=k by omega];exact e
   have i:=za (rq (HT.o _ hB) (HK.o _ hB) hv HC.o A.o hK);clear hB hv;by_cases h0:(M.getD k []).getD c 0=0
   ·have z:=za (t.o h0);have i:=i.o;rw [h0,show(!decide ((0:Rat)=0))=false from rfl] at i;have i:=za i;clear h0 t s;go_wp2_with fail;refine i.o.mono ?_;rintro eo w3 ⟨rfl,hb⟩;have o:=za (zc HB.o hb);clear hb v;go_wp2;go_roundg (n - k)
    case measure=>omega
    case rel=>exact⟨k+1,zb,zb,by go_num,z.o,o.o⟩
   ·have HE:=za (s.o h0);have i:=i.o;rw [decide_eq_false h0,show(!false)=true from rfl] at i;have i:=za i;clear h0 t s;go_wp2_with fail;refine i.o.mono ?_;rintro eo w3 ⟨rfl,hb⟩;have o:=za (zc HB.o hb);clear hb v;go_wp2;go_ret;exact⟨by rw [HE.o];rfl,o.o⟩
  ·have D:k=n:=zb;subst D;have C:decide ((k:Int)<(k:Int))=false:=zA;have HE:=za (HN.o u.o);have o:=za hB;clear hB;go_wp2;go_ret;exact⟨by rw [HE.o];rfl,o.o⟩
end
theorem Vc {P:Program}(w:World)(dT sT ty h:TypeId)(g o d m:Nat)(a:Addr)(k u:Nat)(c:Array Value)(t:TypeId)(cs:List Value)
  (hu:P.underlying dT=some (.slice h)) (hs:(P.info? h).map (·.size)=some 3)
  (hg:w.heap[g]?=some (.cells c t (0,0))) (hn:cs.length=Nat.min k d*3)
  (s:∀j v,cs[j]?=some v->w.cell? (a.add j)=some v) (n:o+cs.length<=c.size) (h1:∀v ∈ cs,v.oneCell'=true):
  (Builtin.copy_ #[dT,sT] ty #[.slice (some ⟨g,o,none⟩) d m,.slice (some a) k u]).run P w =
    .ok (goInt (Nat.min k d)) (w.setRow g (c.toList.take o++cs++c.toList.drop (o+cs.length)).toArray):=by
 have hl:=run_loadCells_list (P:=P) w a cs s;have y:=run_storeCells_at P g o t cs 0 c w hg (by simpa using n) h1;cases hq:P.info? h with
 |none=>simp [hq] at hs
 |some i=>
   have hi:i.size=3:=by simpa [hq] using hs
   simp [Builtin.copy_,run_underlying hu,Builtin.lenOf,Builtin.firstCells,sizeOf,typeInfo,hq,hi,<-hn,hl,y]
theorem yh.copied {q c1 g9 d:Nat}{zs:List Rat}(hv:yh w q n L)(hz:yh w g9 k zs)(hk:c1+k=n)(hn9:n<=1048576)(dT sT ty:TypeId)(hu:prog.underlying dT=some (.slice 52)):
  ∃w',(Builtin.copy_ #[dT,sT] ty #[.slice (some ⟨q,c1*3,none⟩) k d,.slice (some ⟨g9,0,none⟩) k k]).run prog w=.ok (goInt k) w'/\zJ q w w'/\yh w' q n (L.take c1++zs)/\(∀j,j<c1*3->w'.cell? ⟨q,j,none⟩=w.cell? ⟨q,j,none⟩)/\∀(w0:World) (B0:Nat),B0<=q->Below B0 w0 w->Below B0 w0 w':=by
 obtain⟨i0,C,hz0,E,hz2⟩:=info_parts lL;obtain⟨cs,a,t,hsz⟩:=hv.blk;obtain⟨vs,v1,v2,v3,v4,v5⟩:=z8.cells (xe hz);have o:Nat.min k k=k:=Nat.min_self k;have hr:=Vc (P:=prog) w dT sT ty 52 q (c1*3) k d ⟨g9,0,none⟩ k k cs 52 vs hu (by rw [C];simp [E]) a (by rw [o];exact v1) v2 zb v3;rw [o] at hr;have y:cs.toList.length=n*3:=by rw [XP];exact hsz
 obtain⟨new,s⟩:∃new,(cs.toList.take (c1*3)++vs++cs.toList.drop (c1*3+vs.length)).toArray=new:=⟨_,rfl⟩;rw [s] at hr;have ht:zJ q w (w.setRow q new):=zJ.row a;have c:zh (w.setRow q new) q 52 new:=setRow_heap w q cs new _ _ a;have g:new.toList=cs.toList.take (c1*3)++vs:=by
  rw [<-s];show _++_++_=_;rw [List.drop_eq_nil_of_le zb,List.append_nil]
 have z:(cs.toList.take (c1*3)).length=c1*3:=by rw [qA,y];omega
 have a1:∀j,j<c1*3->new[j]?=cs[j]?:=λj hj=>by
  rw [<-QS,g,QG zb,xD,if_pos hj,QS]
 have a2:∀j,new[c1*3+j]?=vs[j]?:=λj=>by
  rw [<-QS,g,qT zb,z,show c1*3+j - c1*3=j by omega]
 have hc:∀j,j<c1*3->(w.setRow q new).cell? ⟨q,j,none⟩=w.cell? ⟨q,j,none⟩:=λj hj=>by rw [c.cell,a.cell,a1 j hj]
 refine⟨_,hr,ht,⟨by rw [qB,qA,hv.len,hz.len];omega,⟨new,c,?_,?_⟩,λi x hi=>?_⟩,hc,λw0 B0 hB hb=>hb.trans ⟨rfl,rfl,rfl,zA,λk hk=>setRow_other w q k new zb⟩⟩
 ·intro u A k9 z9;rw [g] at A;rcases List.mem_append.1 A with h|h
  ·exact t u (xT h) k9 z9
  ·exact v4 u h k9 z9
 ·rw [<-XP,g,qB,z,v1];omega
 ·have D:(L.take c1).length=c1:=by rw [qA,hv.len];omega
  by_cases hlt:i<c1
  ·rw [QG zb,xD,if_pos hlt] at hi;obtain⟨b,B,m,d',F,u,v,h1,h2,h3,h4⟩:=hv.num i x hi;exact⟨b,B,m,d',F,u,v,(hc _ zb).trans h1,(hc _ zb).trans h2,(hc _ zb).trans h3,yy a (y3 t) ht.1 h4⟩
  ·rw [qT zb,D] at hi;obtain⟨b,B,m,d',F,u,v,h1,h2,h3,h4⟩:=v5 _ x hi;refine⟨b,B,m,d',F,u,v,?_,?_,?_,yy a (y3 t) ht.1 h4⟩
   ·rw [c.cell,show i*3=c1*3+(i - c1)*3 by omega,a2];exact h1
   ·rw [c.cell,show i*3+1=c1*3+((i - c1)*3+1) by omega,a2];exact h2
   ·rw [c.cell,show i*3+2=c1*3+((i - c1)*3+2) by omega,a2];exact h3
theorem fW {P:Program}{w':World}{o:Oper}{a:Act}{K:Act->World->Prop}{Q:Exit->Act->World->Prop}(s x:Operand)(dT sT:TypeId){v u r:Value}
  (ho:o.op=.call {callee:=.builtin .copy,args:=#[s,x],argTypes:=#[dT,sT]}) (hs:a.eval s=v) (hx:a.eval x=u) (hr:(Builtin.copy_ #[dT,sT] o.type #[v,u]).run P w=.ok r w') (h:K (a.put o.dst r) w'):Oper.wp P o a w K Q:=by
 unfold Oper.wp execOp;simp only [ho,resolve,invoke,builtin,Sem.run_bind,Sem.run_pure,Result.andThen_ok,YG,yK,List.map_nil,hs,hx,hr];exact h
def wN (c:Nat)(S:List (List Rat))(i:Nat):List (List Rat):=S.mapIdx λj row=>if c<j/\j<c+1+i then vL c (zD (zl S) c) row (S.getD c []) else row
theorem fd (hj:j<S.length):(wN c S i)[j]?=some (if c<j/\j<c+1+i then vL c (zD (zl S) c) (S.getD j []) (S.getD c []) else S.getD j []):=by
 unfold wN;rw [List.getElem?_mapIdx,qY hj];show some (if c<j/\j<c+1+i then _ else _)=_;rw [show S.getD j []=S[j] by rw [qQ,qY hj];rfl]
theorem Xp (hj:j<S.length):(wN c S i).getD j []=if c<j/\j<c+1+i then vL c (zD (zl S) c) (S.getD j []) (S.getD c []) else S.getD j []:=by
 rw [qQ,fd hj];rfl
theorem jI (c:Nat)(S:List (List Rat))(i:Nat):(wN c S i).length=S.length:=by unfold wN;rw [List.length_mapIdx]
theorem Xh (c:Nat)(S:List (List Rat)):wN c S 0=S:=by
 apply List.ext_getElem?;intro j;by_cases hj:j<S.length
 ·rw [fd hj,if_neg zb,wy (d:=[]) hj]
 ·rw [QL (by rw [jI];omega),QL zb]
theorem Xo {c:Nat}(hn:S.length=n){i:Nat}(hi:n<=c+1+i):wN c S i=wT c S:=by
 apply List.ext_getElem?;intro j;by_cases hj:j<S.length
 ·rw [fd hj,wy (d:=[]) (by unfold wT;rw [List.length_mapIdx];exact hj:j<(wT c S).length),aP hj];by_cases e:c<j
  ·rw [if_pos e,if_pos ⟨e,zb⟩]
  ·rw [if_neg e,if_neg λx=>e x.1]
 ·rw [QL (by rw [jI];omega),QL (by unfold wT;rw [List.length_mapIdx];omega)]
theorem SM (hi:c+1+i<S.length):(wN c S i).set (c+1+i) (vL c (zD (zl S) c) (S.getD (c+1+i) []) (S.getD c []))=wN c S (i+1):=by
 apply List.ext_getElem?;intro j;by_cases hj:j<S.length
 ·rw [fd hj,List.getElem?_set,fd hj];by_cases e:c+1+i=j
  ·subst e;rw [if_pos rfl,if_pos (by rw [jI];exact hi),if_pos ⟨zb,zb⟩]
  ·rw [if_neg e];by_cases e2:c<j/\j<c+1+i
   ·rw [if_pos e2,if_pos ⟨e2.1,zb⟩]
   ·rw [if_neg e2,if_neg λx=>e2 ⟨x.1,zb⟩]
 ·rw [QL (by rw [QX,jI];omega),QL (by rw [jI];omega)]
theorem aJ (hj:j<S.length)(h:j<=c):(wN c S i).getD j []=S.getD j []:=by rw [Xp hj,if_neg zb]
theorem Qx (hn:S.length=n)(hc:c<n):zD (zl (wN c S i)) c=zD (zl S) c:=by
 unfold zD
 split
 ·rfl
 ·unfold zl;rw [aJ zb zb]
theorem Qw (hn:S.length=n)(hc:c<n):zl (wN c S i) c c=zl S c c:=by unfold zl;rw [aJ zb (qX c)]
theorem Sn (h:zO S n n)(hc:c<n):zO (wN c S i) n n:=by
 refine⟨by rw [jI];exact h.rows,λL hL=>?_⟩;unfold wN at hL;obtain⟨j,hj,rfl⟩:=List.mem_mapIdx.1 hL
 split
 ·exact fV (h.cols _ (xH _)) (h.row hc) hc
 ·exact h.cols _ (xH _)
theorem SL {c1:Nat}{p:Rat}{row by_:List Rat}(hc:c+1=c1):vL c p row by_=row.take c1++zT p⁻¹ (vZ (zT (by_.getD c 0) (row.drop c1)) (-row.getD c 0) (by_.drop c1)):=by subst hc;rfl
theorem fB {e:yt}{cA:Nat}{cB:Nat}{l:Nat}{A B D:ze}{x0 x1 x2:Value}(h:zw w g m e A n cA B k cB D l cD x0 x1 x2 qs):
  Calls prog 70 #[.pointer (some ⟨g,0,none⟩)] w (λeo w'=>eo=.returned (.int .i64 (n:Int))/\Below w.heap.size w w'):=by
 have q0:=h.blk.cell 0;have HB:=za (qZ w.heap.size w);clear h;go_enter func70,ntmps70;go_wp2;go_ret;exact⟨rfl,HB.o⟩
theorem Sw:∀(args:Array Value) (w':World),Sem.run prog (callFunc 116 args) w'=.ok (.enter 116 args) w':=Go.Proofs.enters_of func116 ye rfl
section
variable {w:World}{Q:ze}{n q m gc:Nat}{S:List (List Rat)}
theorem SY {r:Nat}(hk:zh w gc 26 #[.slice Q n q])(h:yx (z8 zo) w Q n S)(hd:zO S n m)(hr:r<n)(hc:c<m):
  Calls prog 116 (#[.int .i64 (c:Int),.int .i64 (r:Int)]++#[.pointer (some ⟨gc,0,none⟩)]) w (yi w (zl S r c)):=by
 show Calls _ _ #[.int .i64 (c:Int),.int .i64 (r:Int),.pointer (some ⟨gc,0,none⟩)] _ _;obtain⟨a,i,-⟩:=zu w 52 #[.bool false,.slice none 0 0,.slice none 0 0];have g0:=(zg a hk).c1;obtain⟨ad,C,d,rfl,-,h0,hv⟩:=h.get (y7 zZ) (qZ _ _) hr (hd.row hr);have hv:zR w C m d (S.getD r []):=hv;obtain⟨ae,b1,B1,m1,d1,E1,u1,v1,rfl,-,q0,q1,q2,hx⟩:=hv.get (qZ _ _) hc;have hx:zo w (zl S r c) b1 B1 m1 d1 E1 u1 v1:=hx;obtain⟨h0,q0,q1,q2⟩:=tT a h0 q0 q1 q2;have i1:(0:Int)<=(r:Int):=zb;have i2:(r:Int)<(n:Int):=zb;have i3:(0:Int)<=(c:Int):=zb;have i4:(c:Int)<(m:Int):=zb;obtain⟨sc0,sf0,sc1,sf1,sc2,sf2⟩:=zY i (.bool b1) (.slice B1 m1 d1);obtain⟨g,j,-⟩:=zu w 52 #[.bool b1,.slice B1 m1 d1,.slice E1 u1 v1];obtain⟨r0,r1,r2⟩:=j.c3;have HG:zd (yi w (zl S r c) (.returned (.agg #[.bool b1,.slice B1 m1 d1,.slice E1 u1 v1])) (w.alloc (.cells #[.bool b1,.slice B1 m1 d1,.slice E1 u1 v1] 52))):=⟨_,_,_,_,_,_,_,rfl,hx.below g,g⟩;clear hk h hd a i hv hx g j;go_enter func116,ntmps116;go_wp2;refine bodyPost_ret (v:=.agg #[.bool b1,.slice B1 m1 d1,.slice E1 u1 v1]) (by simp [results,results116,go_sem,r0,r1,r2]) rfl ?_;exact HG.o
theorem Wu (h:yx (z8 zo) w Q n S)(hd:zO S n n)(hn:n<=64):
  Calls prog 72 #[.slice Q n q] w (jW w n (yp n n λr c=>zl S c r)):=by
 obtain⟨a,d,-⟩:=zu w 26 #[.slice Q n q];have g0:=d.c1;have HG:zd (mR (λr c=>zl S c r) 116 #[.pointer (some ⟨w.heap.size,0,none⟩)] n n (w.alloc (.cells #[.slice Q n q] 26))):=⟨Sw,λr c hr hc w' hb=>SY (zg hb d) (h.below (y7 zZ) (zc a hb)) hd hc hr⟩;have HB:=za a;clear h hd a d;go_enter func72,ntmps72;go_wp2_with fail;(with_reducible refine(Wt (λr c=>zl S c r) _ _ n _ HG.o hn).mono ?_);rintro eo w2 ⟨g2,rfl,g,i,hb⟩;have HF:zd (jW w n (yp n n λr c=>zl S c r) (.returned (.slice (some ⟨g2,0,none⟩) n n)) w2):=⟨g2,rfl,qH HB.o.size g,i,zc HB.o hb⟩;clear hb g i g0;go_wp2;go_ret;exact HF.o
end
