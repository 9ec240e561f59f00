/- What this claim leans on. -/
import Derived.Test.YtielpgdebeggbaaGreatDoorMLList
set_option linter.unusedVariables false
set_option linter.unusedSimpArgs false
namespace Go.Proofs.YtielpgdebeggbaaGreatDoor
open Go Go.RowKit Go.Proofs.Tryz
set_option maxHeartbeats 16000000
set_option maxRecDepth 100000
variable {M:List (List Rat)}{xs ys:List Rat}{K a c m n:Nat}{t:TypeId}{v v':Value}{w:World}
section
variable {w:World}{A:ze}{n c m K K0:Nat}{MM:List (List Rat)}
theorem x6.slot {g:Nat}{ld:List Nat}{cs:Array Value}(h:x6 w a v ld)(hk:zh w g t cs)(ht:t≠3)(i:Nat)(x:Value):x6 (w.setCell ⟨g,i,none⟩ x) a v ld:=
 h.off λq s ds hq d=>zh.far (p:=⟨g,i,none⟩) d (λe=>by
  have e:q=g:=e;subst e;rcases h.own.2 with⟨h5,_⟩|⟨g',cap,cur,e1,e2,e3,_⟩
  ·rw [h5] at hq;cases hq
  ·rw [e1] at hq;simp [Value.ownBlock] at hq;subst hq;exact ht (tv hk e3)) _
theorem qi (hT:zu w)(h:xm w A n c m MM)(z:zW K0 MM)(hW:yy K MM)(hK:260*K+269<=33554432:=by omega)(ah:K+K0<=33554432:=by omega)(ai:0<K:=by omega):
  Calls prog 76 #[.agg #[.slice A n c,.int .i64 (m:Int)]] w (Z1 w n m (uY m MM) (yp m MM).ld):=by
 obtain⟨hn,hm⟩:=And.intro h.hn h.hm;have HM:=zk w (λw' hb=>h.keep hb);have HT:=zk w (λw' hb=>hT.on hb);have HZ:=zb z;have HW:=zb hW;have HD:=zb h.dims;have F:=km h.dims;obtain⟨s1,s2,s3,s4⟩:=aH h.dims hn hW;have Q:=zb s1;have R:=zb s2;have T:=zb s3;have U:=zb s4;have I:=zb (PT h.dims);have J:=zb F.dims;have N:zd (∀l ∈(yp m MM).ld,l<128):=λl hl=>by have:=kf F l hl;omega
 obtain⟨k,o,V,-⟩:=yv w 28 28 #[.slice A n c,.int .i64 (m:Int)] #[.slice none 0 0,.int .i64 0];obtain⟨p0,p1⟩:=o.c2;have HB:=zb k;have i:=zb o;have a:=zb V;have B:zd (uY m MM=tA (yp m MM).p⁻¹ (yp m MM).S):=rfl;have G:oX m (xp MM)=yp m MM:=rfl;obtain⟨st,y⟩:∃st,yp m MM=st:=⟨_,rfl⟩;obtain⟨RM,Y⟩:∃RM,uY m MM=RM:=⟨_,rfl⟩;rw [y] at G R T U J N B⊢;rw [Y] at B Q I⊢;have ag:=zb G;unfold Z1;clear h hT z hW k o V G y F s1 s2 s3 s4 Y;go_enter func76,ntmps76;go_wp2_with fail;generalize (w.alloc (.cells #[.slice A n c,.int .i64 (m:Int)] 28)).alloc (.cells #[.slice none 0 0,.int .i64 0] 28)=W1 at*;have j:=(qZ W1.heap.size W1).drew;refine rg (zj p0 (zj p1 zO)) (λhHeld=>?_);have HB:=zb (zc HB.o j);have i:=zb (zg j i.o);have a:=zb (zg j a.o);clear p0 p1 j;generalize W1.drew=D at*;refine tk 0 ?_;refine tk 2 ?_;refine rc 1 (λKK g=>?_);go_simp;refine(uL A n c (m:Int) _).mono ?_;rintro eo w2 ⟨rfl,hb⟩;refine g.out _ _ (Cs.below hHeld hb) (λhHeld=>?_);have HB:=zb (zc HB.o hb);have i:=zb (zg hb i.o);have a:=zb (zg hb a.o);clear g KK hb;refine rc 3 (λKK g=>?_);go_simp;(with_reducible refine(Wo (HT.o _ HB.o) (HM.o _ HB.o) HZ.o za).mono ?_);rintro eo w3 ⟨g3,rfl,aj,Z,hb⟩;refine g.out _ _ (Cs.below hHeld hb) (λhHeld=>?_);have HB:=zb (zc HB.o hb);have i:=zb (zg hb i.o);have a:=zb (zg hb a.o);have HR:=zb Z.rows;clear g KK hb aj Z;refine rc 4 (λKK g=>?_);go_simp;(with_reducible refine(V3 (HT.o _ HB.o) HR.o HD.o HZ.o HW.o hn za (qX _) hK ah ai).mono ?_);rintro eo w4 ⟨g4,rfl,ak,⟨A4,cA4,B4,k4,X,z0,z1,z2,u0,u1,u2,C⟩,hb⟩;rw [ag.o] at C;refine g.out _ _ (Cs.below hHeld hb) (λhHeld=>?_);have HB:=zb (zc HB.o hb);have i:=zb (zg hb i.o);have a:=zb (zg hb a.o);have d:=zb C;clear g KK hb ak C HR;refine tk 5 ?_;refine zV ?_;clear hHeld;obtain⟨p0,p1⟩:=i.o.c2;go_wp2_with fail;clear p0 p1;refine(uL A n c (m:Int) _).mono ?_;rintro eo w5 ⟨rfl,hb⟩;have HB:=zb (zc HB.o hb);have a:=zb (zg hb a.o);have d:=zb (d.o.below hb);clear hb i;go_wp2_with fail;(with_reducible refine(SL (HT.o _ HB.o) d.o J.o U.o R.o T.o hn za za).mono ?_);rintro eo w6 ⟨g6,rfl,al,E,hb⟩;rw [<-B.o] at E;have HB:=zb (zc HB.o hb);have a:=zb (zg hb a.o);have d:=zb (d.o.below hb);have P:=zb E.rows;clear hb al E;go_wp2_with fail;(with_reducible refine(aJ (HT.o _ HB.o) P.o I.o hn hm Q.o za).mono ?_);rintro eo w7 ⟨A7,c7,rfl,hm7,-,hb⟩;obtain⟨k,o,-⟩:=zA w7 28 #[.slice A7 n c7,.int .i64 (m:Int)];have t:=zc hb k;have u:=a;have HB:=zb (zc HB.o t);have a:=zb (zg t a.o);have d:=zb (d.o.below t);have s:=zb (hm7.keep k);have L:=zb o;have af:zd (w.heap.size+1<w7.heap.size):=(zg hb u.o).lt;clear hb hm7 k o t P u;go_upto_region 3 with fail;generalize w7.alloc (.cells #[.slice A7 n c7,.int .i64 (m:Int)] 28)=W8 at*;generalize w7.heap.size=q7 at*;obtain⟨p0,p1⟩:=L.o.c2;obtain⟨-,p2,-⟩:=d.o.cells;have j:=(qZ W8.heap.size W8).drew;have ae:zd (g4≠w.heap.size+1):=λe=>by subst e;exact absurd (tv d.o.blk a.o) zf
 have O:zd (q7≠w.heap.size+1):=by have:=af.o;show q7≠w.heap.size+1;omega
 refine rg (zj p0 (zj p1 (zj p2 zO))) (λhHeld=>?_);have HB:=zb (zc HB.o j);have a:=zb (zg j a.o);have d:=zb (d.o.below j);have s:=zb (s.o.keep j);clear p0 p1 p2 j L;generalize W8.drew=D8 at*;refine tk 0 ?_;refine tk 1 ?_;refine tk 2 ?_;refine tk 3 ?_;refine tk 4 ?_;obtain⟨am,ao,an,ap⟩:=uH a.o (.slice A7 n c7);obtain⟨r0,r1⟩:=(uG a.o (.slice A7 n c7) (.int .i64 (m:Int))).c2;have aa:=zb (gU (.slice A7 n c7) (.int .i64 (m:Int)) (show w.heap.size<=w.heap.size+1 by omega) HB.o);have ad:=zb (s.o.offz a.o (.slice A7 n c7) (.int .i64 (m:Int)));have M:=zb ((d.o.lds.slot a.o zf 0 (.slice A7 n c7)).slot (a.o.set_ 0 (.slice A7 n c7)) zf 1 (.int .i64 (m:Int)));have ac:=zb (M.o.ints N.o);have H:=zb d.o.cap;have ab:=zb d.o.hk;refine rc 5 (λKK g=>?_);go_simp;refine g.out _ _ (Cs.far hHeld (um _ _ (.slice A7 n c7) (.int .i64 (m:Int))) ⟨O.o,O.o,ae.o,trivial⟩) (λhHeld=>?_);clear g KK am ao an ap;refine tk 6 ?_;refine zV ?_;clear hHeld d s HB a M;go_wp2;refine bodyPost_ret (v:=.tuple #[.agg #[.slice A7 n c7,.int .i64 (m:Int)],.slice B4 k4 X]) (by simp [results,results76,go_sem,r0,r1]) rfl ?_;exact⟨A7,c7,B4,k4,X,rfl,ab.o.symm,ad.o,ac.o,H.o.2.2.2.1,H.o.2.2.2.2.1,aa.o⟩
end
def Xh (m:Nat)(z:Int)(w:World)(M:List (List Rat))(e:Ending)(w':World):Prop:=∃(A:ze) (c:Nat),e=.returned (.tuple #[.agg #[.slice A 2 c,.int .i64 z],.bool true])/\xm w' A 2 c m M/\(∀ad,A=some ad->w.heap.size<=ad.block)/\Below w.heap.size w w'
theorem yy.of_sz (h:zW K M)(hd:zM M n m):yy (1+(m+1)*K) M:=⟨λrow hr=>(iR (by rw [hd.cols row hr];exact qX _) (h row hr)).1,λrow hr x hx=>(iR (by rw [hd.cols row hr];exact qX _) (h row hr)).2 x hx⟩
def E1:List (List Rat):=[wi [1,2,0],wi [0,0,1]]
def E2:List (List Rat):=[wi [1,2],wi [3,4]]
def E3:List (List Rat):=[wi [1,1],wi [1,1]]
theorem d2 (h1:xs.length=m)(h2:ys.length=m):zM [xs,ys] 2 m:=⟨rfl,λL hL=>by
 simp at hL;rcases hL with rfl|rfl
 ·exact h1
 ·exact h2⟩
theorem fG (h1:zD K xs)(h2:zD K ys):zW K [xs,ys]:=λL hL=>by
 simp at hL;rcases hL with rfl|rfl
 ·exact h1
 ·exact h2
section
variable {A B V Q:ze}{c d cv q:Nat}{M:List (List Rat)}{xs:List Rat}{w:World}
theorem lX (hT:zu w)(h:yx (yg zo) w Q 2 M)(hd:zM M 2 2)(z:zW 1 M):Calls prog 35 #[.int .i64 2,.slice Q 2 q] w (Xh 2 2 w M):=aJ (m:=2) hT h hd zf zf z zf
end
theorem Ru {s:Nat}{xs:List Value}(h:w.ownsRow a t s v n xs):∃A c,v=.slice A n c:=by
 rcases h.2 with⟨h1,h2⟩|⟨g,cap,cur,h1,_⟩
 ·subst h2;exact⟨_,_,h1⟩
 ·exact⟨_,_,h1⟩
section
variable {w w':World}{g m:Nat}{e:yF}{n cA:Nat}{k cB:Nat}{l cD:Nat}{A B D:ze}{x0 x1 x2:Value}{qs:List Nat}
theorem zE.growRow {q:Nat}{L:List Rat}(h:zE w g m e A n cA B k cB D l cD x0 x1 x2 qs)(hg:w.grownBy w' (Value.slice A n cA).ownBlock)(ho:w'.ownsRow g 41 1 v' (n+1) (uF m qs++[.slice (some ⟨q,0,none⟩) m m]))(hp:wB w' v')(hv:yf w q m L)(hq:g<q)(E:q ∉ qs)(C:(Value.slice B k cB).ownBlock≠some q):
  ∃A' cA',v'=.slice A' (n+1) cA'/\zE (w'.setCell ⟨g,0,none⟩ v') g m {e with S:=e.S++[L]} A' (n+1) cA' B k cB D l cD x0 x1 x2 (qs++[q]):=by
 have t:zh w' g 77 #[.slice A n cA,.slice B k cB,.slice D l cD,x0,x1,x2]/\(∃us,y8 zo w' g 52 (.slice B k cB) e.T us)/\x6 w' g (.slice D l cD) e.P/\RV w' e.rd x0 x1 x2/\(∀i,i<e.S.length->yf w' (qs.getD i 0) m (e.S.getD i []))/\yf w' q m L:=by
  cases hA:(Value.slice A n cA).ownBlock with
  |none=>
    rw [hA] at hg;have hb:=uI hg;have h2:=h.below hb;exact⟨h2.blk,h2.times,h2.perm,h2.rsd,h2.rows.row,hv.keep hb⟩
  |some b=>
    rw [hA] at hg;obtain⟨b1,b2,b3,b4,b5⟩:=h.turnA hA (ya.grown hg);obtain⟨_,cs,h1,hs⟩:=h.rows.at_ hA;obtain⟨ds,h2,_⟩:=hv.blk;exact⟨b1,b2,b3,b4,b5,hv.turn (ya.grown hg) h1 (tZ hs) (xl h2 h1 zf)⟩
 obtain⟨b1,⟨us,b2⟩,b3,b4,b5,b6⟩:=t;have hn:=h.hn;have hl:=h.rows.len;have d : vE w' g v' m (e.S ++ [L]) (qs ++ [q]):={
  own:=by
   have e1:uF m (qs++[q])=uF m qs++[.slice (some ⟨q,0,none⟩) m m]:=by unfold uF;rw [yO];rfl
   rw [e1,qB,hn];exact ho
  sl:=hp
  len:=by rw [qB,qB,hl];rfl
  row:=λi hi=>by
   rw [qB] at hi;by_cases hlt:i<e.S.length
   ·rw [qQ,QP za,<-qQ,qQ (l:=e.S++[L]),QP hlt,<-qQ];exact b5 i hlt
   ·have z:i=e.S.length:=by simp at hi;omega
    subst z;rw [qQ,QJ za,hl,XK,qQ (l:=e.S++[L]),QJ za,XK];exact b6
  lo:=λq9 h9=>by
   rcases List.mem_append.1 h9 with h9|h9
   ·exact h.rows.lo q9 h9
   ·rw [List.mem_singleton.1 h9];exact hq
  nd:=by
   rw [List.nodup_append];refine⟨h.rows.nd,zF,λa ha b hb=>?_⟩;rw [List.mem_singleton.1 hb];intro e9;exact E (e9▸ha)}
 have j:=h.nok;have ht:=ya.set_ g 0 w' v';have u:v'.ownBlock≠some g:=λe9=>by
  obtain⟨_,cs,h1,_⟩:=d.at_ e9;exact xl h1 b1 zf rfl
 have v:(Value.slice B k cB).ownBlock≠some g:=λe9=>by obtain⟨_,cs,h1,_⟩:=h.atB e9;exact xl h1 h.blk zf rfl
 have y:(Value.slice D l cD).ownBlock≠some g:=λe9=>by obtain⟨_,cs,h1,_⟩:=h.atD e9;exact xl h1 h.blk zf rfl
 have s:=d.turn ht b1 j u (λe9=>by have:=d.lo g e9;omega);have F:∀q9,(Value.slice B k cB).ownBlock=some q9->q9 ∉ qs++[q]:=λq9 h9 h8=>by
  rcases List.mem_append.1 h8 with h8|h8
  ·exact h.tq q9 h9 h8
  ·rw [List.mem_singleton.1 h8] at h9;exact C h9
 have o:(e.S++[L]).length=n+1:=by rw [qB,hn];rfl
 obtain⟨A',c',eA⟩:=Ru s.own;rw [o] at eA;subst eA;exact⟨A',c',rfl,{blk:=b1.set_ 0 _,hn:=o,hk:=h.hk,hl:=h.hl,rows:=s,times:=⟨us,b2.turn ht b1 j v⟩,perm:=b3.turn ht y,rsd:=b4.off b1 j ht.1,tq:=F}⟩
theorem zE.growTime {x:Rat}{us:List Value}{b:Bool}{C F:ze}{p d u f:Nat}(h:zE w g m e A n cA B k cB D l cD x0 x1 x2 qs)(hu:y8 zo w g 52 (.slice B k cB) e.T us)(hg:w.grownBy w' (Value.slice B k cB).ownBlock)(ho:w'.ownsRow g 52 3 v' (k+1) (us++[.bool b,.slice C p d,.slice F u f]))(hp:wS w' v')(hx:zo w x b C p d F u f)(j:v'.ownBlock=(Value.slice B k cB).ownBlock\/v'.ownBlock=some w.heap.size):
  ∃B' cB',v'=.slice B' (k+1) cB'/\zE (w'.setCell ⟨g,1,none⟩ v') g m {e with T:=e.T++[x]} A n cA B' (k+1) cB' D l cD x0 x1 x2 qs:=by
 have o:zh w' g 77 #[.slice A n cA,.slice B k cB,.slice D l cD,x0,x1,x2]/\vE w' g (.slice A n cA) m e.S qs/\x6 w' g (.slice D l cD) e.P/\RV w' e.rd x0 x1 x2:=by
  cases hB:(Value.slice B k cB).ownBlock with
  |none=>
    rw [hB] at hg;have h2:=h.below (uI hg);exact⟨h2.blk,h2.rows,h2.perm,h2.rsd⟩
  |some b=>
    rw [hB] at hg;exact h.turnB hB (ya.grown hg)
 obtain⟨b1,b2,b3,b4⟩:=o;have hk:=h.hk;have y:=y8.grow z6 hu hx ho za hg hp;have a:=h.nok;have ht:=ya.set_ g 1 w' v';have z:∀q,v'.ownBlock=some q->q ∉ qs:=λq e9 h9=>by
  rcases j with h1|h1
  ·exact h.tq q (h1▸e9) h9
  ·rw [h1] at e9;injection e9 with e9;obtain⟨_,cs,h2,_⟩:=h.atQ h9;have:=h2.lt;omega
 have t:v'.ownBlock≠some g:=λe9=>by
  rcases j with h1|h1
  ·obtain⟨_,cs,h2,_⟩:=h.atB (h1▸e9);exact xl h2 h.blk zf rfl
  ·rw [h1] at e9;injection e9 with e9;have:=h.lt;omega
 have s:(Value.slice A n cA).ownBlock≠some g:=λe9=>by obtain⟨_,cs,h1,_⟩:=h.rows.at_ e9;exact xl h1 h.blk zf rfl
 have v:(Value.slice D l cD).ownBlock≠some g:=λe9=>by obtain⟨_,cs,h1,_⟩:=h.atD e9;exact xl h1 h.blk zf rfl
 have i:=y.turn ht b1 a t;obtain⟨B',c',eB,_⟩:=i.shape;rw [qB,hk] at eB;have eB:v'=.slice B' (k+1) c':=eB;subst eB;exact⟨B',c',rfl,{blk:=b1.set_ 1 _,hn:=h.hn,hk:=by show(e.T++[x]).length=k+1;rw [qB,hk];rfl,hl:=h.hl,rows:=b2.turn ht b1 a s (λe9=>by have:=h.rows.lo g e9;omega),times:=⟨_,i⟩,perm:=b3.turn ht v,rsd:=b4.off b1 a ht.1,tq:=z}⟩
theorem zE.growPerm (h:zE w g m e A n cA B k cB D l cD x0 x1 x2 qs)(hg:w.grownBy w' (Value.slice D l cD).ownBlock)(ho:w'.ownsRow g 3 1 v' (l+1) (wI e.P++[.int .i64 (c:Int)]))(hp:sd sa w' v'):
  ∃D' cD',v'=.slice D' (l+1) cD'/\zE (w'.setCell ⟨g,2,none⟩ v') g m {e with P:=e.P++[c]} A n cA B k cB D' (l+1) cD' x0 x1 x2 qs:=by
 have j:zh w' g 77 #[.slice A n cA,.slice B k cB,.slice D l cD,x0,x1,x2]/\vE w' g (.slice A n cA) m e.S qs/\(∃us,y8 zo w' g 52 (.slice B k cB) e.T us)/\RV w' e.rd x0 x1 x2:=by
  cases hD:(Value.slice D l cD).ownBlock with
  |none=>
    rw [hD] at hg;have h2:=h.below (uI hg);exact⟨h2.blk,h2.rows,h2.times,h2.rsd⟩
  |some b=>
    rw [hD] at hg;exact h.turnD hD (ya.grown hg)
 obtain⟨b1,b2,⟨us,b3⟩,b4⟩:=j;have hl:=h.hl;have i:x6 w' g v' (e.P++[c]):=⟨by
  have:wI (e.P++[c])=wI e.P++[.int .i64 (c:Int)]:=by unfold wI;rw [yO];rfl
  rw [this,qB,hl];exact ho,hp⟩
 have a:=h.nok;have ht:=ya.set_ g 2 w' v';have o:(Value.slice A n cA).ownBlock≠some g:=λe9=>by obtain⟨_,cs,h1,_⟩:=h.rows.at_ e9;exact xl h1 h.blk zf rfl
 have s:(Value.slice B k cB).ownBlock≠some g:=λe9=>by obtain⟨_,cs,h1,_⟩:=h.atB e9;exact xl h1 h.blk zf rfl
 have t:v'.ownBlock≠some g:=λe9=>by
  rcases i.own.2 with⟨h1,_⟩|⟨g',cap,cur,e1,e2,e3,_⟩
  ·rw [h1] at e9;cases e9
  ·rw [e1] at e9;simp [Value.ownBlock] at e9;subst e9;exact xl e3 b1 zf rfl
 have d:=i.turn ht t;obtain⟨D',c',eD,_⟩:=d.shape;rw [qB,hl] at eD;have eD:v'=.slice D' (l+1) c':=eD;subst eD;exact⟨D',c',rfl,{blk:=b1.set_ 2 _,hn:=h.hn,hk:=h.hk,hl:=by show(e.P++[c]).length=l+1;rw [qB,hl];rfl,rows:=b2.turn ht b1 a o (λe9=>by have:=h.rows.lo g e9;omega),times:=⟨us,b3.turn ht b1 a s⟩,perm:=d,rsd:=b4.off b1 a ht.1,tq:=h.tq}⟩
theorem zE.ownA (h:zE w g m e A n cA B k cB D l cD x0 x1 x2 qs):∀q,(Value.slice A n cA).ownBlock=some q->g<=q:=λq e9=>(h.rows.at_ e9).1
theorem zE.ownB (h:zE w g m e A n cA B k cB D l cD x0 x1 x2 qs):∀q,(Value.slice B k cB).ownBlock=some q->g<=q:=λq e9=>(h.atB e9).1
theorem zE.ownD (h:zE w g m e A n cA B k cB D l cD x0 x1 x2 qs):∀q,(Value.slice D l cD).ownBlock=some q->g<=q:=λq e9=>(h.atD e9).1
end
theorem zE.new {b2:Bool}{A2 E2:ze}{n2 c2 k2 f2:Nat}(w:World)(m:Nat)(h2:zo w 1 b2 A2 n2 c2 E2 k2 f2):zE (w.alloc (.cells #[.slice none 0 0,.slice none 0 0,.slice none 0 0,.bool b2,.slice A2 n2 c2,.slice E2 k2 f2] 77)) w.heap.size m ⟨[],[],[],1⟩ none 0 0 none 0 0 none 0 0 (.bool b2) (.slice A2 n2 c2) (.slice E2 k2 f2) []:=by
 obtain⟨hb,hk,-⟩:=zA w 77 #[.slice none 0 0,.slice none 0 0,.slice none 0 0,.bool b2,.slice A2 n2 c2,.slice E2 k2 f2];exact{blk:=hk,hn:=rfl,hk:=rfl,hl:=rfl,rows:=vE.nil _ _ _,times:=⟨[],y8.nil _ _ _⟩,perm:=x6.nil _ _,rsd:=RV.of (h2.below hb),tq:=λq h=>by simp [Value.ownBlock] at h}
def fu (M:List (List Rat))(i:Nat):yF:=⟨xp (M.take i),(M.take i).map zG,List.range i,x5 (M.take i)⟩
theorem mz (h:M.length=n):fu M n=sK M:=by
 unfold fu sK;rw [qV za,h]
theorem Om {i:Nat}(h:i<M.length):(M.take (i+1)).map zG=(M.take i).map zG++[zG (M.getD i [])]:=by
 rw [QG h,yO,qQ,qY h];rfl
theorem T5 {P:Program}{Pc:Value->Prop}{D:Array Oper}{rest:List Oper}{o:Oper}{a:Act}{Q:Exit->Act->World->Prop}(G:o.guard=none)(s x:Operand)(t:TypeId)
  (ho:o.op=.call {callee:=.builtin .append,args:=#[s,x],argTypes:=#[t,t]})
  (g:Nat) (e:TypeId) (i:TypeInfo) (z:Value) (size bytes:Nat) (ht:P.underlying t=some (.slice e)) (hi:P.info? e=some i) (hz:i.zero=some z)
  (B:i.size=size) (F:i.bytes=bytes) (J:z.cells.size=size) (hsz:0<size)
  (v:Value) (n:Nat) (xs:List Value) (hs:a.eval s=v) (C:w.ownsRow g e size v n xs)
  (ad:Addr) (m c:Nat) (d:List Value) (hx:a.eval x=.slice (some ad) m c) (hl:d.length=m*size) (A:∀j u,d[j]?=some u->w.cell? (ad.add j)=some u) (h1:∀u ∈ d,u.oneCell'=true)
  (E:n+m<=maxLen) (k:(n+m)*bytes<=140737488355328) (y:g<=w.heap.size)
  (hv:sd Pc w v) (I:∀u ∈ z.cells.toList,Pc u) (H:∀u ∈ d,Pc u)
  (h:∀v' w',w'.ownsRow g e size v' (n+m) (xs++d)->w.grownBy w' v.ownBlock->(v'.ownBlock=v.ownBlock\/v'.ownBlock=some w.heap.size)->sd Pc w' v'->wpList P D Q rest (a.put o.dst v') w'):
  wpList P D Q (o::rest) a w:=by
 refine wpList_plain G λK hK=>?_;obtain⟨v',w',hr,h2,h3,h4,h5⟩:=Wg (P:=P) w g t o.type e i z size bytes ht hi hz B F J hsz v n xs C ad m c d hl A h1 E k y hv I H;unfold Oper.wp execOp;simp only [ho,resolve,invoke,builtin,Sem.run_bind,Sem.run_pure,Result.andThen_ok,yM,yQ,List.map_nil,hs,hx,hr];exact hK _ _ (h v' w' h2 h3 h4 h5)
section
variable {α:Type}{E:El α}
theorem yg.cells {ad:Addr}{xs:List α}(h:yg E w (some ad) n c xs):∃a:List Value,a.length=n*3/\(∀j u,a[j]?=some u->w.cell? (ad.add j)=some u)/\(∀u ∈ a,u.oneCell'=true)/\(∀u ∈ a,vW u)/\
  ∀i x,xs[i]?=some x->∃(b:Bool) (B:ze) (m d:Nat) (F:ze) (u f:Nat),a[i*3]?=some (.bool b)/\a[i*3+1]?=some (.slice B m d)/\a[i*3+2]?=some (.slice F u f)/\E w x b B m d F u f:=by
 have hl:=h.len;have hc:∀j,j<n*3->∃u,w.cell? (ad.add j)=some u/\u.oneCell'=true/\vW u:=λj hj=>by
  have hi:j / 3<n:=za;obtain⟨o,b,B,m,d,F,u,v,e,h1,h2,h3,h4,h5⟩:=h.num (j / 3) _ (qY za);injection e with e;subst e;have s:j%3=0\/j%3=1\/j%3=2:=za;rcases s with h9|h9|h9
  ·exact⟨.bool b,by rw [show j=j / 3*3 by omega];exact h2,rfl,λk z e=>by cases e⟩
  ·exact⟨.slice B m d,by rw [show j=j / 3*3+1 by omega];exact h3,rfl,λk z e=>by cases e⟩
  ·exact⟨.slice F u v,by rw [show j=j / 3*3+2 by omega];exact h4,rfl,λk z e=>by cases e⟩
 have hg:∀j u,j<n*3->w.cell? (ad.add j)=some u->((List.range (n*3)).map λj=>(w.cell? (ad.add j)).getD (.bool false))[j]?=some u:=λj u hj hu=>by
  rw [qW,xB hj];show some ((w.cell? (ad.add j)).getD (.bool false))=some u;rw [hu];rfl
 refine⟨(List.range (n*3)).map λj=>(w.cell? (ad.add j)).getD (.bool false),zF,λj u hj=>?_,λu hu=>?_,λu hu=>?_,λi x hi=>?_⟩
 ·have g:j<n*3:=by
   have:=(List.getElem?_eq_some_iff.1 hj).1;simpa using this
  obtain⟨u',h1,-,-⟩:=hc j g;rw [hg j u' g h1] at hj;injection hj with hj;rw [<-hj];exact h1
 ·obtain⟨j,hj,rfl⟩:=List.mem_map.1 hu;obtain⟨u',h1,h2,-⟩:=hc j (List.mem_range.1 hj);rw [h1];exact h2
 ·obtain⟨j,hj,rfl⟩:=List.mem_map.1 hu;obtain⟨u',h1,-,h2⟩:=hc j (List.mem_range.1 hj);rw [h1];exact h2
 ·have g:=(List.getElem?_eq_some_iff.1 hi).1;obtain⟨o,b,B,m,d,F,u,v,e,h1,h2,h3,h4,h5⟩:=h.num i x hi;injection e with e;subst e;exact⟨b,B,m,d,F,u,v,hg _ _ za h2,hg _ _ za h3,hg _ _ za h4,h5⟩
theorem y8.copied (hE:tY E){w w':World}{g n:Nat}{t:TypeId}{v':Value}{xs:List α}{a:List Value}(hl:xs.length=n)
  (h:∀i x,xs[i]?=some x->∃(b:Bool) (B:ze) (m d:Nat) (F:ze) (u f:Nat),a[i*3]?=some (.bool b)/\a[i*3+1]?=some (.slice B m d)/\a[i*3+2]?=some (.slice F u f)/\E w x b B m d F u f)
  (ho:w'.ownsRow g t 3 v' (0+n) ([]++a)) (hg:w.grownBy w' none) (hn:wS w' v'):y8 E w' g t v' xs a:=by
 rw [xH,XM] at ho;refine⟨by rw [hl];exact ho,hn,λi x hi=>?_⟩;obtain⟨b,B,m,d,F,u,f,h1,h2,h3,h4⟩:=h i x hi;exact⟨b,B,m,d,F,u,f,h1,h2,h3,hE.below h4 (uI hg)⟩
end
theorem Zn:∀{ld:List Nat} {m:Nat},ld.Pairwise (·<·)->(∀l ∈ ld,l<m)->(ir ld m).length+ld.length=m
 |ld,0,_,h=>by
   have:ld=[]:=by
    cases ld with
    |nil=>rfl
    |cons x xs=>exact absurd (h x xT) za
   subst this;rfl
 |ld,m+1,hp,h=>by
   by_cases hm:m ∈ ld
   ·-- m is the last one
    have h1:=Zn (ld:=ld.erase m) (m:=m) (hp.sublist (List.erase_sublist)) λl hl=>by
     have hn:ld.Nodup:=hp.imp fun{a b} hab=>by omega
     have h2:=(hn.mem_erase_iff).1 hl;have:=h l h2.2;have:=h2.1;omega
    have h3:(ir ld (m+1))=ir (ld.erase m) m:=by
     unfold ir;rw [XE,List.filter_append];have:List.filter (λc=> !decide (c ∈ ld)) [m]=[]:=by simp [hm]
     rw [this,List.append_nil];refine List.filter_congr λc hc=>?_;have d:c≠m:=by have:=List.mem_range.1 hc;omega
     have:=List.mem_erase_of_ne (l:=ld) d;simp [this]
    rw [h3];rw [List.length_erase_of_mem hm] at h1;have:=List.length_pos_of_mem hm;omega
   ·have h1:=Zn (ld:=ld) (m:=m) hp λl hl=>by
     have:=h l hl;have:l≠m:=λe=>hm (e▸hl);omega
    have h3:(ir ld (m+1))=ir ld m++[m]:=by
     unfold ir;rw [XE,List.filter_append];simp [hm]
    rw [h3,qB];show _+1+_=_;omega
