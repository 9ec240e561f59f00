/- What this claim leans on. -/
import Derived.Test.YtielpgdebeggbaaGreatDoorMERed2
set_option linter.unusedVariables false
set_option linter.unusedSimpArgs false
namespace Go.Proofs.YtielpgdebeggbaaGreatDoor
open Go Go.RowKit Go.Proofs.Tryz
set_option maxHeartbeats 16000000
set_option maxRecDepth 100000
variable {ad:Addr}{S:List (List Rat)}{ld:List Nat}{a c cD g gA i j m n:Nat}{w w':World}{A:ze}
theorem wn.hangs {α:Type}{R:RP α}{wo W2 wr:World}{t:TypeId}{Ls:List (List α)}(h:wn R wo t g n Ls)(h2:Below wo.heap.size wo W2)(hi:i<n)(hb:Below wo.heap.size (W2.setCell ⟨g,i,none⟩ (.slice (some ⟨wo.heap.size,0,none⟩) m m)) wr):wr.cell? ⟨g,i,none⟩=some (.slice (some ⟨wo.heap.size,0,none⟩) m m):=by
 obtain⟨cs,hk,h1,h3⟩:=h.blk;have a:=((zg h2 hk).set_ i (.slice (some ⟨wo.heap.size,0,none⟩) m m)).below hb hk.lt;rw [a.cell,QZ za]
theorem wn.put {α:Type}{R:RP α}(hR:tp R){wo W2 wr:World}{t:TypeId}{g n i m:Nat}{Ls:List (List α)}{L:List α}(h:wn R wo t g n Ls)(h2:Below wo.heap.size wo W2)(hi:i<n)(hb:Below wo.heap.size (W2.setCell ⟨g,i,none⟩ (.slice (some ⟨wo.heap.size,0,none⟩) m m)) wr)(hx:R wr (some ⟨wo.heap.size,0,none⟩) m m L)(hm:L.length=m):wn R wr t g n (Ls.set i L):=by
 subst hm;obtain⟨cs,hk,h1,h3⟩:=h.blk;have d:=hk.lt;have a:=((zg h2 hk).set_ i (.slice (some ⟨wo.heap.size,0,none⟩) L.length L.length)).below hb d;have hs:=h2.size;have ho:zZ g wo wr:=⟨by have:=hb.size;simp at this;omega,λp hp hq=>((hb.cell hp).trans ((zZ.of_far ((zT.refl g W2).set_ i _)).2 p za hq)).trans (h2.cell hp)⟩;have hc:wr.cell? ⟨g,i,none⟩=some (.slice (some ⟨wo.heap.size,0,none⟩) L.length L.length):=by rw [a.cell,QZ za]
 refine⟨by rw [QY];exact h.len,⟨_,a,?_,by simp;exact h3⟩,λj y hj=>?_⟩
 ·intro u hu;rw [QO] at hu;rcases xJ hu with hu|rfl
  ·exact h1 u hu
  ·exact⟨_,_,_,rfl⟩
 ·by_cases hij:i=j
  ·subst hij;have hl:=h.len;rw [XQ za] at hj;injection hj with hj;subst hj;exact⟨_,_,hc,hx⟩
  ·rw [XY hij] at hj;obtain⟨B',d',c1,c2⟩:=h.num j y hj;refine⟨B',d',?_,hR.offS c2 hk h1 ho⟩;rw [a.cell,qK za,<-hk.cell];exact c1
theorem Vu (f:Nat->Nat->Rat)(F:FuncId)(cap:Array Value)(n:Nat)(w:World)(hG:lK f F cap n n w)(hn:n<=64:=by omega):
  Calls prog 92 #[.int .i64 (n:Int),.func (.func F) #[] cap] w (kz w n (wg n n f)):=by
 obtain⟨hEn,hF⟩:=hG;have HF:=zb hF;have C:=zb (UM n n f);have B:zd (∀r,r<n->(wg n n f)[r]?=some ((List.range n).map (f r))):=λr hr=>UL f hr;have U:zd (∀r c,c<n->((List.range n).map (f r))[c]?=some (f r c)):=λr c hc=>Vs (f r) hc;have V:zd (∀r,((List.range n).map (f r)).length=n):=λr=>Vt n (f r);obtain⟨u,z⟩:∃u:Nat->List Rat,(λr=>(List.range n).map (f r))=u:=⟨_,rfl⟩;have t:∀r,(List.range n).map (f r)=u r:=λr=>by rw [<-z]
 simp only [t] at B U V;obtain⟨M,hM⟩:∃M,wg n n f=M:=⟨_,rfl⟩;rw [hM] at C B⊢;obtain⟨Z,hZ⟩:=nA n za;have HMK:∀W,(Instr.makeSlice 41 (.int .i64 (n:Int)) (.int .i64 (n:Int))).run prog W=.ok (.slice (some ⟨W.heap.size,0,none⟩) n n) (W.alloc (.cells Z 52)):=λW=>(hZ W).1;have X:=zb (λW=>(hZ W).2);obtain⟨Y,hY⟩:=cV n za;have HMKV:∀W,(Instr.makeSlice 26 (.int .i64 (n:Int)) (.int .i64 (n:Int))).run prog W=.ok (.slice (some ⟨W.heap.size,0,none⟩) n n) (W.alloc (.cells Y 41)):=λW=>(hY W).1;have a:=(hY w).2;have d:Below w.heap.size w (w.alloc (.cells Y 41)):=(qZ _ w).alloc (qX _) _;rw [<-sV [] M n] at a;clear hF z t hM hZ hY;unfold kz;have i0:(0:Int)<=(n:Int):=za;go_enter func92,ntmps92;go_wp2_with fail;obtain⟨g0,ad⟩:∃g,w.heap.size=g:=⟨_,rfl⟩;have ag:w.heap.size<=g0:=za;rw [ad] at a⊢;generalize w.alloc (.cells Y 41)=W1 at*;clear ad
 go_loopg [12] (n+1) (λg ix wr=>∃(k:Nat),k<=n/\n<g+k/\ix=.int .i64 k/\wn (yg zo) wr 41 g0 n (vC [] M n k)/\Below w.heap.size w wr)
 case atStart=>exact⟨0,qM _,za,rfl,a,d⟩
 case round=>
  clear a d;obtain⟨k,hkn,hg,rfl,a,hB⟩:=hrel;obtain⟨wo,aq⟩:∃wo,wo=wr:=⟨_,rfl⟩;subst aq;by_cases hlt:k<n
  ·have ao:decide ((k:Int)<(n:Int))=true:=decide_eq_true za;have i2:(0:Int)<=(k:Int):=za;have i3:(k:Int)<(n:Int):=za;have y:=zb (U.o k);have i:=zb (V.o k);have v:=zb (B.o k hlt);obtain⟨R,hR⟩:∃R,u k=R:=⟨_,rfl⟩;rw [hR] at y i v;have h:=X.o wo;have d:Below wo.heap.size wo (wo.alloc (.cells Z 52)):=(qZ _ wo).alloc (qX _) _;have K:=a.below (xe z6) d;obtain⟨q0,P,Q⟩:=K.ready hlt;obtain⟨cs,ae,ac,-⟩:=K.blk;have J:wo.heap.size≠g0:=by have:=a.lt;omega
   have h:yf _ wo.heap.size n _:=yf.turn h (ya.set_ g0 k _ (.slice (some ⟨wo.heap.size,0,none⟩) n n)) ae (tZ ac) J;rw [<-sV 0 R n] at h;have m:=zb a;have S:=zb d;have al:=zb J;have HB:=zb (zQ (p:=⟨g0,k,none⟩) (.slice (some ⟨wo.heap.size,0,none⟩) n n) ag (zc hB d));have ab:=zb hB.size;clear a hB d K ae ac J hR;go_wp2_with fail;clear P Q;obtain⟨W3,H⟩:∃W3,(wo.alloc (.cells Z 52)).setCell ⟨g0,k,none⟩ (.slice (some ⟨wo.heap.size,0,none⟩) n n)=W3:=⟨_,rfl⟩;have G:=zb H;rw [H] at h HB⊢;have ak:=zb (λwr (hb:Below wo.heap.size W3 wr)=>m.o.hangs S.o hlt (by rw [G.o];exact hb));have aa:=zb (λwr (hb:Below wo.heap.size W3 wr) (hx:zR wr (some ⟨wo.heap.size,0,none⟩) n n R)=>wn.put (xe z6) m.o S.o hlt (by rw [G.o];exact hb) hx i.o);clear H G
   go_loopg [21] (n+1) (λg jx wr=>∃(j:Nat),j<=n/\n<g+j/\jx=.int .i64 j/\yf wr wo.heap.size n (vC 0 R n j)/\Below wo.heap.size W3 wr)
   case atStart=>exact⟨0,qM _,za,rfl,h,qZ _ _⟩
   case round=>
    clear h;obtain⟨j,hjm,hg2,rfl,h,d⟩:=hrel;have o:=zb h;by_cases hjl:j<n
    ·have ap:decide ((j:Int)<(n:Int))=true:=decide_eq_true za;have i4:(0:Int)<=(j:Int):=za;have i5:(j:Int)<(n:Int):=za;have aj:=zb (y.o j hjl);have p0:=ak.o _ d;have E:zd (wo.heap.size<wr.heap.size):=h.lt;have T:=zb d.drew;clear h d;go_wp2_with fail;have I:=(qZ wr.heap.size wr).drew;refine rg (zj p0 zO) (λhHeld=>?_);clear p0;have o:=zb (o.o.keep I);have E:=zb (qJ E.o I.size);clear I;generalize wr.drew=D at*;refine tk 0 ?_;refine tk 1 ?_;refine tk 2 ?_;refine tk 3 ?_;refine tk 4 ?_;refine tk 5 ?_;refine tk 6 ?_;refine tk 7 ?_;refine rc 8 (λKK s=>?_);go_simp;refine(HF.o k j hlt hjl _ (HB.o.trans (T.o.mono ab.o))).mono ?_;rintro e w3 ⟨b3,A3,n3,c3,E3,k3,f3,rfl,af,hb⟩;refine s.out _ _ (Cs.below hHeld hb) (λhHeld=>?_);have L:=o.o.keep hb;have N:=wC.set_ z6 L hjl af;rw [sR 0 R n j i.o hjl _ aj.o] at N;obtain⟨q0,q1,q2,P,Q,ar,av,au,aw⟩:=L.ready hjl (.bool b3) (.slice A3 n3 c3);have am:=zb N;have ah:=zb ((((T.o.trans (hb.mono (qD E.o))).setCell (p:=⟨wo.heap.size,j*3,none⟩) (qX _) (.bool b3)).setCell (p:=⟨wo.heap.size,j*3+1,none⟩) (qX _) (.slice A3 n3 c3)).setCell (p:=⟨wo.heap.size,j*3+2,none⟩) (qX _) (.slice E3 k3 f3));have A:=(((zT.refl wo.heap.size w3).set_ (j*3) (.bool b3)).set_ (j*3+1) (.slice A3 n3 c3)).set_ (j*3+2) (.slice E3 k3 f3);clear L N hb af o s KK;refine tk 9 ?_;refine rc 10 (λKK s=>?_);go_simp;refine s.out _ _ (Cs.far hHeld A ⟨Ne.symm al.o,trivial⟩) (λhHeld=>?_);clear s KK P Q ar av au aw A;refine zV ?_;clear hHeld;go_wp2;go_roundg (n - j)
     case measure=>omega
     case rel=>exact⟨j+1,za,za,by go_num,am.o,ah.o⟩
    ·have hj:j=n:=za;subst hj;have ap:decide ((j:Int)<(j:Int))=false:=zF;have O:=aa.o _ d (yt (sQ 0 R j i.o▸o.o));rw [sR [] M j k C.o hlt _ v.o] at O;have an:=zb O;have ai:=zb (HB.o.trans (d.mono ab.o));clear h d O o;go_wp2;go_roundg (j - k)
     case measure=>omega
     case rel=>exact⟨k+1,za,za,by go_num,an.o,ai.o⟩
  ·have hk:k=n:=za;subst hk;have ao:decide ((k:Int)<(k:Int))=false:=zF;have m:=zb (sQ [] M k C.o▸a);have HB:=zb hB;clear a hB;go_wp2;go_ret;exact⟨g0,rfl,ag,m.o,HB.o⟩
theorem lr {q:Nat}{qs:List Nat}:uF m (yq 0 c q qs)=((uF m qs).set c (.slice (some ⟨qs.getD q 0,0,none⟩) m m)).set q (.slice (some ⟨qs.getD c 0,0,none⟩) m m):=by
 unfold uF yq;rw [List.map_set,List.map_set]
theorem x6.open {d l:Nat}(h:x6 w d (.slice (some ⟨g,0,none⟩) l cD) ld):∃a:Array Value,d<=g/\l=ld.length/\zh w g 3 a/\l<=cD/\cD<=maxLen/\a.size=cD/\a.toList.take l=wI ld/\∀u ∈ a.toList,sa u:=by
 rcases h.own.2 with⟨e,_⟩|⟨g',cap,a,e1,e2,e3,e4,e5,e6,e7⟩
 ·cases e
 ·injection e1 with a1 a2 a3;injection a1 with a1;injection a1 with a1;subst a1 a2 a3;obtain⟨i,s,h1,h2⟩:=h.pr g rfl;have hc:i=a:=by rw [e3] at h1;injection h1 with h1;injection h1 with h1 _;exact h1.symm
  subst hc;exact⟨i,e2,rfl,e3,e4,e5,za,by rw [<-e7,xO],h2⟩
theorem x6.put {l x:Nat}(h:x6 w a (.slice (some ⟨g,0,none⟩) l cD) ld)(hi:i<l):x6 (w.setCell ⟨g,i,none⟩ (.int .i64 (x:Int))) a (.slice (some ⟨g,0,none⟩) l cD) (ld.set i x):=by
 obtain⟨cur,h1,h2,h3,h4,h5,h6,h7,h8⟩:=h.open;have hk:=h3.set_ i (.int .i64 (x:Int));refine⟨⟨by unfold wI;rw [QH,xO],.inr ⟨g,cD,_,by rw [QY,<-h2],h1,hk,by rw [QY,<-h2];exact h4,h5,by simp;exact h6,?_⟩⟩,λq e=>?_⟩
 ·rw [QY,<-h2,xO,QO,YL,h7];unfold wI;rw [List.map_set]
 ·simp [Value.ownBlock] at e;subst e;refine⟨_,_,hk,λu hu=>?_⟩;rw [QO] at hu;rcases xJ hu with hu|rfl
  ·exact h8 u hu
  ·exact⟨_,rfl⟩
theorem x6.ready {l:Nat}(h:x6 w a (.slice (some ⟨g,0,none⟩) l cD) ld)(hi:i<l):w.cell? ⟨g,i,none⟩=some (.int .i64 (ld.getD i 0:Nat))/\w.frozen? ⟨g,i,none⟩=false:=by
 obtain⟨cur,h1,h2,h3,h4,h5,h6,h7,h8⟩:=h.open;refine⟨?_,h3.frozen _⟩;have hc:=h.own.cells (g:=g) rfl i (.int .i64 (ld.getD i 0:Nat)) (by unfold wI;rw [qW,qQ,qY za];rfl);rw [xv] at hc;exact hc
section
variable {w:World}{g m:Nat}{e:yF}{n cA:Nat}{k cB:Nat}{l cD:Nat}{A B D:ze}{x0 x1 x2:Value}{qs:List Nat}{c q:Nat}
theorem zE.rowAt (h:zE w g m e (some ⟨gA,0,none⟩) n cA B k cB D l cD x0 x1 x2 qs){i:Nat}(hi:i<n):w.cell? ⟨gA,i,none⟩=some (.slice (some ⟨qs.getD i 0,0,none⟩) m m)/\w.frozen? ⟨gA,i,none⟩=false/\yf w (qs.getD i 0) m (e.S.getD i []):=by
 have hn:=h.hn;have hl:=h.rows.len;obtain⟨_,cs,hk,_⟩:=h.rows.at_ (q:=gA) rfl;have hc:=h.rows.own.cells (g:=gA) rfl i (.slice (some ⟨qs.getD i 0,0,none⟩) m m) (by
  unfold uF;rw [qW,qQ,qY za];rfl)
 rw [xv] at hc;exact⟨hc,hk.frozen _,h.rows.row i za⟩
theorem zE.exA (h:zE w g m e (some ⟨gA,0,none⟩) n cA B k cB D l cD x0 x1 x2 qs)(hc:c<n)(hq:q<n)(s:c≠q):
  (w.setCell ⟨gA,c,none⟩ (.slice (some ⟨qs.getD q 0,0,none⟩) m m)).cell? ⟨gA,q,none⟩=some (.slice (some ⟨qs.getD q 0,0,none⟩) m m)/\(w.setCell ⟨gA,c,none⟩ (.slice (some ⟨qs.getD q 0,0,none⟩) m m)).frozen? ⟨gA,q,none⟩=false/\
  zE ((w.setCell ⟨gA,c,none⟩ (.slice (some ⟨qs.getD q 0,0,none⟩) m m)).setCell ⟨gA,q,none⟩ (.slice (some ⟨qs.getD c 0,0,none⟩) m m)) g m {e with S:=yq [] c q e.S} (some ⟨gA,0,none⟩) n cA B k cB D l cD x0 x1 x2 (yq 0 c q qs):=by
 have hn:=h.hn;have hl:=h.rows.len;obtain⟨c1,_,_⟩:=h.rowAt hc;obtain⟨c2,_,_⟩:=h.rowAt hq;rcases h.rows.own.2 with⟨e9,_⟩|⟨g',cap,cur,e1,e2,e3,e4,e5,e6,e7⟩
 ·cases e9
 ·injection e1 with a1 a2 a3;injection a1 with a1;injection a1 with a1;subst a1 a3;have a:=zh.set_ e3 c (.slice (some ⟨qs.getD q 0,0,none⟩) m m);have hk2:=a.set_ q (.slice (some ⟨qs.getD c 0,0,none⟩) m m);have ht:=(ya.set_ gA c w (.slice (some ⟨qs.getD q 0,0,none⟩) m m)).trans (ya.set_ gA q _ (.slice (some ⟨qs.getD c 0,0,none⟩) m m));obtain⟨b1,b2,b3,b4,b5⟩:=h.turnA (q:=gA) rfl ht;obtain⟨j,s9,q1,q2⟩:=h.rows.sl gA rfl;have o:j=cur:=by rw [e3] at q1;injection q1 with q1;injection q1 with q1 _;exact q1.symm
  subst o;refine⟨?_,a.frozen _,?_⟩
  ·rw [a.cell,qK s,<-zh.cell e3];exact c2
  ·have d:=Z6 (0:Nat) (r:=c) (q:=q) (L:=qs) za za;exact {
    blk:=b1
    hn:=by show(yq [] c q e.S).length=n;rw [oS];exact hn
    hk:=h.hk
    hl:=h.hl
    rows:={
     own:=⟨by show(uF m (yq 0 c q qs)).length=(yq [] c q e.S).length*1;unfold uF;rw [QH,oS,oS,hl,xO],.inr ⟨gA,cA,_,by show _=Value.slice _ (yq [] c q e.S).length _;rw [oS,hn],e2,hk2,by show(yq [] c q e.S).length<=_;rw [oS];exact e4,e5,by simp;simpa using e6,by
      show _=_;rw [oS,lr,QO,QO,YL,YL,e7]⟩⟩
     sl:=λq9 e9=>by
      simp [Value.ownBlock] at e9;subst e9;refine⟨_,_,hk2,λu hu=>?_⟩;rw [QO,QO] at hu;rcases xJ hu with hu|rfl
      ·rcases xJ hu with hu|rfl
       ·exact q2 u hu
       ·exact⟨_,_,_,rfl⟩
      ·exact⟨_,_,_,rfl⟩
     len:=by show(yq 0 c q qs).length=(yq [] c q e.S).length;rw [oS,oS];exact hl
     row:=λi hi=>by
      have hi:i<(yq [] c q e.S).length:=hi;rw [oS] at hi;show yf _ ((yq 0 c q qs).getD i 0) m ((yq [] c q e.S).getD i []);rw [iq 0 za za,iq [] za za];by_cases h1:i=c
      ·rw [if_pos h1,if_pos h1];exact b5 q za
      ·rw [if_neg h1,if_neg h1];by_cases h2:i=q
       ·rw [if_pos h2,if_pos h2];exact b5 c za
       ·rw [if_neg h2,if_neg h2];exact b5 i hi
     lo:=λq9 h9=>h.rows.lo q9 (d.mem_iff.1 h9)
     nd:=d.nodup_iff.2 h.rows.nd}
    times:=b2
    perm:=b3
    rsd:=b4
    tq:=λq9 h9 h8=>h.tq q9 h9 (d.mem_iff.1 h8)}
theorem zE.timeAt (h:zE w g m e A n cA (some ad) k cB D l cD x0 x1 x2 qs){i:Nat}(hi:i<k):ad=⟨ad.block,0,none⟩/\∃(b:Bool) (B:ze) (p d:Nat) (F:ze) (u v:Nat),w.cell? ⟨ad.block,i*3,none⟩=some (.bool b)/\w.cell? ⟨ad.block,i*3+1,none⟩=some (.slice B p d)/\w.cell? ⟨ad.block,i*3+2,none⟩=some (.slice F u v)/\zo w (e.T.getD i 0) b B p d F u v:=by
 obtain⟨us,hu⟩:=h.times;obtain⟨cur,h1,_⟩:=hu.open;refine⟨h1,?_⟩;obtain⟨A',c',e1,hv,_⟩:=hu.shape;have hk:=h.hk;injection e1 with a1 a2 a3;subst a1;obtain⟨ae,b,B,p,d,F,u,v,e9,_,q0,q1,q2,hx⟩:=hv.num i _ (ws (d:=0) za);injection e9 with e9;subst e9;rw [h1,xv] at q0 q1 q2;exact⟨b,B,p,d,F,u,v,q0,q1,q2,hx⟩
theorem zE.timePut (h:zE w g m e A n cA (some ad) k cB D l cD x0 x1 x2 qs){i:Nat}(hi:i<k){x:Rat}{b:Bool}{B F:ze}{p d u v:Nat}(hx:zo w x b B p d F u v):
  zE (((w.setCell ⟨ad.block,i*3,none⟩ (.bool b)).setCell ⟨ad.block,i*3+1,none⟩ (.slice B p d)).setCell ⟨ad.block,i*3+2,none⟩ (.slice F u v)) g m {e with T:=e.T.set i x} A n cA (some ad) k cB D l cD x0 x1 x2 qs/\zo (((w.setCell ⟨ad.block,i*3,none⟩ (.bool b)).setCell ⟨ad.block,i*3+1,none⟩ (.slice B p d)).setCell ⟨ad.block,i*3+2,none⟩ (.slice F u v)) x b B p d F u v/\
  ∀{y:Rat} {b':Bool} {B' F':ze} {p' d' u' v':Nat},zo w y b' B' p' d' F' u' v'->zo (((w.setCell ⟨ad.block,i*3,none⟩ (.bool b)).setCell ⟨ad.block,i*3+1,none⟩ (.slice B p d)).setCell ⟨ad.block,i*3+2,none⟩ (.slice F u v)) y b' B' p' d' F' u' v':=by
 obtain⟨us,hu⟩:=h.times;obtain⟨t,o⟩:=hu.put z6 hi hx;have ht:=((ya.set_ ad.block (i*3) w (.bool b)).trans (ya.set_ ad.block (i*3+1) _ (.slice B p d))).trans (ya.set_ ad.block (i*3+2) _ (.slice F u v));have j:(Value.slice (some ad) k cB).ownBlock=some ad.block:=by
  obtain⟨cur,h1,_⟩:=hu.open;rw [h1];rfl
 obtain⟨b1,b2,b3,b4⟩:=h.turnB j ht;obtain⟨_,cs,a,s⟩:=h.atB j;exact⟨{blk:=b1,hn:=h.hn,hk:=by show(e.T.set i x).length=k;rw [QY];exact h.hk,hl:=h.hl,rows:=b2,times:=⟨t,o⟩,perm:=b3,rsd:=b4,tq:=h.tq},wD a (tr s) ht.1 hx,λhy=>wD a (tr s) ht.1 hy⟩
theorem zE.permPut {gD:Nat}(h:zE w g m e A n cA B k cB (some ⟨gD,0,none⟩) l cD x0 x1 x2 qs){i x:Nat}(hi:i<l):zE (w.setCell ⟨gD,i,none⟩ (.int .i64 (x:Int))) g m {e with P:=e.P.set i x} A n cA B k cB (some ⟨gD,0,none⟩) l cD x0 x1 x2 qs:=by
 obtain⟨b1,b2,b3,b4⟩:=h.turnD (q:=gD) rfl (ya.set_ gD i w (.int .i64 (x:Int)));exact{blk:=b1,hn:=h.hn,hk:=h.hk,hl:=by show(e.P.set i x).length=l;rw [QY];exact h.hl,rows:=b2,times:=b3,perm:=h.perm.put hi,rsd:=b4,tq:=h.tq}
theorem zE.newRd {r:Rat}{z0 z1 z2:Value}(h:zE w g m e A n cA B k cB D l cD x0 x1 x2 qs)(hp:RV w r z0 z1 z2):zE (((w.setCell ⟨g,3,none⟩ z0).setCell ⟨g,4,none⟩ z1).setCell ⟨g,5,none⟩ z2) g m {e with rd:=r} A n cA B k cB D l cD z0 z1 z2 qs:=by
 have ht:=((ya.set_ g 3 w z0).trans (ya.set_ g 4 _ z1)).trans (ya.set_ g 5 _ z2);obtain⟨b1,b2,b3,b4⟩:=h.store (A':=A) (n':=n) (cA':=cA) (B':=B) (k':=k) (cB':=cB) (D':=D) (l':=l) (cD':=cD) ht;exact{blk:=((h.blk.set_ 3 z0).set_ 4 z1).set_ 5 z2,hn:=h.hn,hk:=h.hk,hl:=h.hl,rows:=b1,times:=b2,perm:=b3,rsd:=hp.off h.blk h.nok ht.1,tq:=h.tq}
end
theorem VG {P:Program}(w:World)(dT sT ty k:TypeId)(g o h n:Nat)(a:Addr)(m y:Nat)(d:Array Value)(t:TypeId)(cs:List Value)
  (hu:P.underlying dT=some (.slice k)) (hs:(P.info? k).map (·.size)=some 3)
  (hg:w.heap[g]?=some (.cells d t (0,0))) (hn:cs.length=Nat.min m h*3)
  (u:∀j v,cs[j]?=some v->w.cell? (a.add j)=some v) (s:o+cs.length<=d.size) (h1:∀v ∈ cs,v.oneCell'=true):
  (Builtin.copy_ #[dT,sT] ty #[.slice (some ⟨g,o,none⟩) h n,.slice (some a) m y]).run P w =
    .ok (goInt (Nat.min m h)) (w.setRow g (d.toList.take o++cs++d.toList.drop (o+cs.length)).toArray):=by
 have hl:=run_loadCells_list (P:=P) w a cs u;have z:=run_storeCells_at P g o t cs 0 d w hg (by simpa using s) h1;cases hq:P.info? k with
 |none=>simp [hq] at hs
 |some i=>
   have hi:i.size=3:=by simpa [hq] using hs
   simp [Builtin.copy_,run_underlying hu,Builtin.lenOf,Builtin.firstCells,sizeOf,typeInfo,hq,hi,<-hn,hl,z]
theorem yf.copied {q c1 k g9 d:Nat}{L zs:List Rat}(hv:yf w q n L)(hz:yf w g9 k zs)(hk:c1+k=n)(hn9:n<=1048576)(dT sT ty:TypeId)(hu:prog.underlying dT=some (.slice 52)):
  ∃w',(Builtin.copy_ #[dT,sT] ty #[.slice (some ⟨q,c1*3,none⟩) k d,.slice (some ⟨g9,0,none⟩) k k]).run prog w=.ok (goInt k) w'/\ya q w w'/\yf w' q n (L.take c1++zs)/\(∀j,j<c1*3->w'.cell? ⟨q,j,none⟩=w.cell? ⟨q,j,none⟩)/\∀(w0:World) (B0:Nat),B0<=q->Below B0 w0 w->Below B0 w0 w':=by
 obtain⟨i0,D,hz0,G,hz2⟩:=info_parts lL;obtain⟨cs,a,y,hsz⟩:=hv.blk;obtain⟨vs,v1,v2,v3,v4,v5⟩:=yg.cells (yt hz);have s:Nat.min k k=k:=Nat.min_self k;have hr:=VG (P:=prog) w dT sT ty 52 q (c1*3) k d ⟨g9,0,none⟩ k k cs 52 vs hu (by rw [D];simp [G]) a (by rw [s];exact v1) v2 za v3;rw [s] at hr;have z:cs.toList.length=n*3:=by rw [XO];exact hsz
 obtain⟨new,t⟩:∃new,(cs.toList.take (c1*3)++vs++cs.toList.drop (c1*3+vs.length)).toArray=new:=⟨_,rfl⟩;rw [t] at hr;have ht:ya q w (w.setRow q new):=ya.row a;have g:zh (w.setRow q new) q 52 new:=setRow_heap w q cs new _ _ a;have o:new.toList=cs.toList.take (c1*3)++vs:=by
  rw [<-t];show _++_++_=_;rw [List.drop_eq_nil_of_le za,List.append_nil]
 have A:(cs.toList.take (c1*3)).length=c1*3:=by rw [qE,z];omega
 have a1:∀j,j<c1*3->new[j]?=cs[j]?:=λj hj=>by
  rw [<-QS,o,QP za,xZ,if_pos hj,QS]
 have a2:∀j,new[c1*3+j]?=vs[j]?:=λj=>by
  rw [<-QS,o,QJ za,A,show c1*3+j - c1*3=j by omega]
 have hc:∀j,j<c1*3->(w.setRow q new).cell? ⟨q,j,none⟩=w.cell? ⟨q,j,none⟩:=λj hj=>by rw [g.cell,a.cell,a1 j hj]
 refine⟨_,hr,ht,⟨by rw [qB,qE,hv.len,hz.len];omega,⟨new,g,?_,?_⟩,λi x hi=>?_⟩,hc,λw0 B0 hB hb=>hb.trans ⟨rfl,rfl,rfl,zF,λk hk=>setRow_other w q k new za⟩⟩
 ·intro u C k9 z9;rw [o] at C;rcases List.mem_append.1 C with h|h
  ·exact y u (XX h) k9 z9
  ·exact v4 u h k9 z9
 ·rw [<-XO,o,qB,A,v1];omega
 ·have E:(L.take c1).length=c1:=by rw [qE,hv.len];omega
  by_cases hlt:i<c1
  ·rw [QP za,xZ,if_pos hlt] at hi;obtain⟨b,B,m,d',F,u,v,h1,h2,h3,h4⟩:=hv.num i x hi;exact⟨b,B,m,d',F,u,v,(hc _ za).trans h1,(hc _ za).trans h2,(hc _ za).trans h3,wD a (tr y) ht.1 h4⟩
  ·rw [QJ za,E] at hi;obtain⟨b,B,m,d',F,u,v,h1,h2,h3,h4⟩:=v5 _ x hi;refine⟨b,B,m,d',F,u,v,?_,?_,?_,wD a (tr y) ht.1 h4⟩
   ·rw [g.cell,show i*3=c1*3+(i - c1)*3 by omega,a2];exact h1
   ·rw [g.cell,show i*3+1=c1*3+((i - c1)*3+1) by omega,a2];exact h2
   ·rw [g.cell,show i*3+2=c1*3+((i - c1)*3+2) by omega,a2];exact h3
theorem Ve {P:Program}{o:Oper}{a:Act}{K:Act->World->Prop}{Q:Exit->Act->World->Prop}(s x:Operand)(dT sT:TypeId){v u r:Value}
  (ho:o.op=.call {callee:=.builtin .copy,args:=#[s,x],argTypes:=#[dT,sT]}) (hs:a.eval s=v) (hx:a.eval x=u) (hr:(Builtin.copy_ #[dT,sT] o.type #[v,u]).run P w=.ok r w') (h:K (a.put o.dst r) w'):Oper.wp P o a w K Q:=by
 unfold Oper.wp execOp;simp only [ho,resolve,invoke,builtin,Sem.run_bind,Sem.run_pure,Result.andThen_ok,yM,yQ,List.map_nil,hs,hx,hr];exact h
def wX (c:Nat)(S:List (List Rat))(i:Nat):List (List Rat):=S.mapIdx λj row=>if c<j/\j<c+1+i then uu c (zI (zl S) c) row (S.getD c []) else row
theorem fW (hj:j<S.length):(wX c S i)[j]?=some (if c<j/\j<c+1+i then uu c (zI (zl S) c) (S.getD j []) (S.getD c []) else S.getD j []):=by
 unfold wX;rw [List.getElem?_mapIdx,qY hj];show some (if c<j/\j<c+1+i then _ else _)=_;rw [show S.getD j []=S[j] by rw [qQ,qY hj];rfl]
theorem Vl (hj:j<S.length):(wX c S i).getD j []=if c<j/\j<c+1+i then uu c (zI (zl S) c) (S.getD j []) (S.getD c []) else S.getD j []:=by
 rw [qQ,fW hj];rfl
theorem iG (c:Nat)(S:List (List Rat))(i:Nat):(wX c S i).length=S.length:=by unfold wX;rw [List.length_mapIdx]
theorem Wq (c:Nat)(S:List (List Rat)):wX c S 0=S:=by
 apply List.ext_getElem?;intro j;by_cases hj:j<S.length
 ·rw [fW hj,if_neg za,ws (d:=[]) hj]
 ·rw [qN (by rw [iG];omega),qN za]
theorem Vk {c:Nat}(hn:S.length=n){i:Nat}(hi:n<=c+1+i):wX c S i=ve c S:=by
 apply List.ext_getElem?;intro j;by_cases hj:j<S.length
 ·rw [fW hj,ws (d:=[]) (by unfold ve;rw [List.length_mapIdx];exact hj:j<(ve c S).length),ZW hj];by_cases e:c<j
  ·rw [if_pos e,if_pos ⟨e,za⟩]
  ·rw [if_neg e,if_neg λx=>e x.1]
 ·rw [qN (by rw [iG];omega),qN (by unfold ve;rw [List.length_mapIdx];omega)]
theorem RU (hi:c+1+i<S.length):(wX c S i).set (c+1+i) (uu c (zI (zl S) c) (S.getD (c+1+i) []) (S.getD c []))=wX c S (i+1):=by
 apply List.ext_getElem?;intro j;by_cases hj:j<S.length
 ·rw [fW hj,List.getElem?_set,fW hj];by_cases e:c+1+i=j
  ·subst e;rw [if_pos rfl,if_pos (by rw [iG];exact hi),if_pos ⟨za,za⟩]
  ·rw [if_neg e];by_cases e2:c<j/\j<c+1+i
   ·rw [if_pos e2,if_pos ⟨e2.1,za⟩]
   ·rw [if_neg e2,if_neg λx=>e2 ⟨x.1,za⟩]
 ·rw [qN (by rw [QY,iG];omega),qN (by rw [iG];omega)]
theorem ZH (hj:j<S.length)(h:j<=c):(wX c S i).getD j []=S.getD j []:=by rw [Vl hj,if_neg za]
theorem Of (hn:S.length=n)(hc:c<n):zI (zl (wX c S i)) c=zI (zl S) c:=by
 unfold zI
 split
 ·rfl
 ·unfold zl;rw [ZH za za]
theorem PK (hn:S.length=n)(hc:c<n):zl (wX c S i) c c=zl S c c:=by unfold zl;rw [ZH za (qX c)]
theorem S5 (h:zM S n n)(hc:c<n):zM (wX c S i) n n:=by
 refine⟨by rw [iG];exact h.rows,λL hL=>?_⟩;unfold wX at hL;obtain⟨j,hj,rfl⟩:=List.mem_mapIdx.1 hL
 split
 ·exact dZ (h.cols _ (xU _)) (h.row hc) hc
 ·exact h.cols _ (xU _)
theorem RT {c1:Nat}{p:Rat}{row by_:List Rat}(hc:c+1=c1):uu c p row by_=row.take c1++zL p⁻¹ (vV (zL (by_.getD c 0) (row.drop c1)) (-row.getD c 0) (by_.drop c1)):=by subst hc;rfl
def eZ (w:World)(n:Nat)(ld:List Nat)(eo:Ending)(w':World):Prop:=∃(A:ze) (c:Nat),eo=.returned (.slice A n c)/\tt w' A n (sJ ld)/\Below w.heap.size w w'
theorem YF (hl:ld.length=n)(hb:∀l ∈ ld,l<128)(h:∀i,i<n->∃ad,A=some ad/\w.cell? (ad.add i)=some (.int .i64 (ld.getD i 0:Nat))):tt w A n (sJ ld) where
 len:=by unfold sJ;rw [QH];exact hl
 ints:=λi hi=>by
  have:=hb (ld.getD i 0) (tW za);rw [Y2 za];omega
 num:=λi hi=>by
  rw [Y2 za];exact h i hi
theorem RE {v:Value}(ho:w'.ownsRow w.heap.size 3 1 v n (wI ld))(hl:ld.length=n)(hb:∀l ∈ ld,l<128)(hB:Below w.heap.size w w'):eZ w n ld (.returned v) w':=by
 rcases ho.2 with⟨rfl,h0⟩|⟨g,cap,cur,rfl,hbg,hg,hnc,hcm,hcs,htake⟩
 ·subst h0;exact⟨none,0,rfl,YF hl hb λi hi=>absurd hi (Nat.not_lt_zero i),hB⟩
 ·have a:=ho.cells (g:=g) rfl;refine⟨some ⟨g,0,none⟩,cap,rfl,YF hl hb λi hi=>⟨_,rfl,a _ _ ?_⟩,hB⟩;unfold wI;rw [qW,qQ,qY za];rfl
theorem mu (ld:List Nat):∀u ∈ wI ld,u.oneCell'=true:=λu hu=>by
 obtain⟨l,_,rfl⟩:=List.mem_map.1 hu;rfl
theorem Si (ad:Addr)(n c:Nat)(l:List Nat)(w:World)(hA:zN w w.heap.size 1 (some ad) n (wI l))(hl:l.length=n)(hb:∀x ∈ l,x<128)(hn:n<=1048576):
  Calls prog 47 #[.slice (some ad) n c] w (eZ w n l):=by
 obtain⟨i0,t,u,v,y⟩:=info_parts tP;have q:∀(w:World) (a:ze) (n c n' c':Nat),(binOp .eql 35 (.slice a n c) (.slice none n' c')).run prog w=.ok (.bool a.isNone) w:=λw a n c n' c'=>Lib.run_eql_slice_nil w _ _ a n c n' c' underlying35;have m:∀o,zN (w.alloc o) w.heap.size 1 (some ad) n (wI l):=λo=>hA.alloc (qX _) o;have HL:=zb hl;have k:=zb hb;clear hl hb;go_enter func47,ntmps47;go_wp2_with (at_builtin;refine Xq _ rfl (.tmp 5) (.tmp 6) 35 rfl w.heap.size 3 i0 (.int .i64 0) 1 8 underlying35 t u v y rfl zf (.slice (some ⟨w.heap.size,0,none⟩) 0 0) 0 [] rfl (World.ownsRow_made w #[] 0 (qX _) (qM _) rfl) _ (some ad) n c (wI l) rfl (m _) (mu _) (by unfold maxLen;omega) za zF ?_;intro v' w1 h d s);have j:Below w.heap.size w w1:=((qZ _ w).alloc (qX _) _).grown d zF (λg hg=>by simp [Value.ownBlock] at hg;omega);have i:w1.ownsRow w.heap.size 3 1 v' n (wI l):=by simpa using h
 have G:=zb (RE i HL.o k.o j);clear h d s j i;go_wp2;go_ret;exact G.o
theorem Sh (c:Nat)(w:World):Calls prog 47 #[.slice none 0 c] w λe w'=>e=.returned (.slice none 0 0)/\w=w':=by
 have q:∀(w:World) (a:ze) (n c n' c':Nat),(binOp .eql 35 (.slice a n c) (.slice none n' c')).run prog w=.ok (.bool a.isNone) w:=λw a n c n' c'=>Lib.run_eql_slice_nil w _ _ a n c n' c' underlying35;go_enter func47,ntmps47;go_wp2;go_ret;exact⟨rfl,rfl⟩
section
variable {w:World}{g n K:Nat}{e:yF}{M:List (List Rat)}{cA cB cD:Nat}{A B D:ze}{x0 x1 x2:Value}{qs:List Nat}
theorem mE (h:zE w g n e A n cA B n cB D n cD x0 x1 x2 qs)(a:ym n n K M e)(hn:n<=64):
  Calls prog 13 #[.pointer (some ⟨g,0,none⟩)] w (eZ w n e.P):=by
 have q0:=h.blk.cell 2;have hl:=a.pl;have hb:∀x ∈ e.P,x<128:=λx hx=>by
  have:=List.mem_range.1 (a.perm.mem_iff.1 hx);omega
 have HC:zd (Calls prog 47 #[.slice D n cD] w (eZ w n e.P)):=by
  obtain⟨A',c',e1,e2,e3,-,e4⟩:=h.perm.shape;rw [hl] at e1 e4;injection e1 with e1 _ _;subst e1;cases D with
  |none=>
    have o:n=0:=by
     rcases QW n with h0|h0
     ·exact h0
     ·obtain⟨ad,e9,_⟩:=e4 0 h0;cases e9
    subst o;exact(Sh cD w).mono λeo w' ⟨h1,h2⟩=>by
     subst h1 h2;exact⟨none,0,rfl,YF hl hb λi hi=>absurd hi (Nat.not_lt_zero i),qZ _ _⟩
  |some ad=>
    refine Si ad n cD e.P w ⟨by unfold wI;rw [QH,hl,xO],λh0=>?_⟩ hl hb za;obtain⟨ad2,e9,k⟩:=e4 0 h0;injection e9 with e9;subst e9;refine⟨_,rfl,by have:=QM w _ k;rwa [y4] at this,λj u hj=>?_⟩;have m:j<n:=by
     have:=(List.getElem?_eq_some_iff.1 hj).1;unfold wI at this;rw [QH] at this;omega
    obtain⟨ad3,e9,hc⟩:=e4 j m;injection e9 with e9;subst e9;rw [hc];unfold wI at hj;rw [qW,qY za] at hj;rw [qQ,qY za];exact hj
 clear h a hl hb;go_enter func13,ntmps13;go_wp2_with fail;(with_reducible refine HC.o.mono ?_);rintro eo w2 ⟨A2,c2,rfl,d,hb⟩;have HF:zd (eZ w n e.P (.returned (.slice A2 n c2)) w2):=⟨A2,c2,rfl,d,hb⟩;clear d hb q0 HC;go_wp2;go_ret;exact HF.o
end
def VU (w:World)(xs:List Rat)(e:Ending)(w':World):Prop:=∃(v:Value) (vs:List Value),e=.returned v/\y8 zo w' w.heap.size 52 v xs vs/\Below w.heap.size w w'
theorem Sj {L:List (Int×Int)}(hT:zu w)(h:vt w A n c L):
  Calls prog 24 #[.slice A n c] w (VU w (wZ L)):=by
 obtain⟨ai,ah,S,T,U⟩:=info_parts lL;have hn0:n<=1048576:=qH h.fits h.small;have HL:=zb h.len;have HG:zd (∀k,k<n->wY (L.getD k (0,0)).1/\wY (L.getD k (0,0)).2/\∃ad,A=some ad/\ad.block<w.heap.size/\w.cell? (ad.add (k*2))=some (.int .i64 (L.getD k (0,0)).1)/\w.cell? (ad.add (k*2+1))=some (.int .i64 (L.getD k (0,0)).2)):=λk hk=>by
  have hl:=h.len;have e:L[k]?=some (L.getD k (0,0)):=by rw [qQ,qY za];rfl
  obtain⟨h1,h2⟩:=h.ints _ (QX e);exact⟨h1,h2,h.row k _ e⟩
 have HS:zd (∀k,k<n->wZ (L.take (k+1))=wZ (L.take k)++[sM (L.getD k (0,0)).1 (L.getD k (0,0)).2]):=λk hk=>by
  have hl:=h.len;unfold wZ;rw [QG za,yO,qQ,qY za];rfl
 have HT:=zk w (λw' hb=>hT.on hb);unfold VU;clear h hT;have hB:=qZ w.heap.size w;go_enter func24,ntmps24;go_wp2_with fail
 go_loopg [3,4] (n+1) (λg sl ix wr=>∃(k:Nat) (v:Value) (vs:List Value),k<=n/\n<g+k/\ix=.int .i64 k/\v=sl/\y8 zo wr w.heap.size 52 v (wZ (L.take k)) vs/\Below w.heap.size w wr)
 case atStart=>exact⟨0,_,_,qM _,za,rfl,rfl,y8.nil _ _ _,hB⟩
 case round=>
  clear hB;obtain⟨k,v,vs,hkn,hg,rfl,rfl,a,hB⟩:=hrel;by_cases hlt:k<n
  ·obtain⟨i,m,ad,rfl,hadb,o,s⟩:=HG.o k hlt;have G:=zb (HS.o k hlt);obtain⟨q,hq⟩:∃q,L.getD k (0,0)=q:=⟨_,rfl⟩;rw [hq] at i m o s G;obtain⟨q1,q2⟩:=q;dsimp only at i m o s G;have o:=zw hB o;have s:=eU (zw hB s);have ag:decide ((k:Int)<(n:Int))=true:=decide_eq_true za;have i1:(0:Int)<=(k:Int):=za;have i2:(k:Int)<(n:Int):=za;have N:=zb a;have I:=zb hB;have Y:=zb i;have Z:=zb m;have Q:(wZ (L.take k)).length=k:=by rw [iZ,qE,HL.o];omega
   have K:=zb Q;clear a hB i m hq Q;go_wp2_with fail;(with_reducible refine(Ub (HT.o _ I.o) Y.o Z.o).mono ?_);rintro e w5 ⟨b5,B5,m5,d5,E5,u5,f5,rfl,R,hb⟩;obtain⟨t1,t2,_⟩:=zA w5 52 #[.bool b5,.slice B5 m5 d5,.slice E5 u5 f5];obtain⟨aj,ak,al⟩:=t2.c3;have H:=zc hb t1;have a:=y8.below z6 N.o H;have HX:=zb (R.below t1);have HB:=zb (zc I.o H);have t:∀j u,[Value.bool b5,.slice B5 m5 d5,.slice E5 u5 f5][j]?=some u->(w5.alloc (.cells #[.bool b5,.slice B5 m5 d5,.slice E5 u5 f5] 52)).cell? ((⟨w5.heap.size,0,none⟩:Addr).add j)=some u:=λj u hu=>by
    rw [xv]
    match j,hu with
    |0,hu=>simp at hu;subst hu;exact t2.cell 0
    |1,hu=>simp at hu;subst hu;exact t2.cell 1
    |2,hu=>simp at hu;subst hu;exact t2.cell 2
   have F:=zb t;have O:zd (∀u ∈ [Value.bool b5,.slice B5 m5 d5,.slice E5 u5 f5],u.oneCell'=true):=by intro u hu;simp at hu;rcases hu with rfl|rfl|rfl<;>rfl
   have aa:zd (∀u ∈ [Value.bool b5,.slice B5 m5 d5,.slice E5 u5 f5],vW u):=by intro u hu y z;simp at hu;rcases hu with rfl|rfl|rfl<;>(intro h9;cases h9)
   have ae:zd (∀u ∈(Value.agg #[.bool false,.slice none 0 0,.slice none 0 0]).cells.toList,vW u):=by intro u hu y z;simp [Value.cells] at hu;rcases hu with rfl|rfl<;>(intro h9;cases h9)
   have J:zd (w.heap.size<=(w5.alloc (.cells #[.bool b5,.slice B5 m5 d5,.slice E5 u5 f5] 52)).heap.size):=HB.o.size;have C:=a.own;rw [K.o] at C;have P:=zb C;have M:=zb a.nou;have ac:=zb a;have ab:=zb (λr (h:v.ownBlock=some r)=>a.own.lt r h);clear hb H R t a t1 t2 o s aj ak al C;go_wp2_with (at_builtin;go_loud (refine Zi _ rfl (.tmp 11) (.tmp 17) 41 rfl w.heap.size 52 ai (.agg #[.bool false,.slice none 0 0,.slice none 0 0]) 3 56 underlying41 ah S T U rfl zf v k vs rfl P.o ⟨w5.heap.size,0,none⟩ 1 1 [.bool b5,.slice B5 m5 d5,.slice E5 u5 f5] rfl rfl F.o O.o (by unfold maxLen;omega) za J.o M.o ae.o aa.o ?_;intro v' w8 D d af B;have E:=zb (y8.grow (n:=k+1) z6 ac.o HX.o D (by rw [K.o]) d B);have X:=zb (HB.o.grown d J.o (λr hr=>(ab.o r hr).1));clear D d af B));rw [<-G.o] at E;go_roundg (n - k)
   case measure=>omega
   case rel=>exact⟨k+1,_,_,za,za,by go_num,rfl,E.o,X.o⟩
  ·have ag:decide ((k:Int)<(n:Int))=false:=decide_eq_false za;have hk:k=n:=za;subst hk;rw [qV (by rw [HL.o];exact qX _)] at a;have HV:=zb a;have V:=zb hB;clear a hB;go_wp2;go_ret;exact⟨_,_,rfl,HV.o,V.o⟩
