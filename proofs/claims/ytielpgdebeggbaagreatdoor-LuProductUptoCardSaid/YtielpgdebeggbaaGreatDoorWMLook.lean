/- What this claim leans on. -/
import Derived.Test.YtielpgdebeggbaaGreatDoorWMArgs
set_option linter.unusedVariables false
set_option linter.unusedSimpArgs false
namespace Go.Proofs.YtielpgdebeggbaaGreatDoor
open Go Go.RowKit Go.Proofs.Tryz
set_option maxHeartbeats 16000000
set_option maxRecDepth 100000
variable {b:Bool}{M xs ys:List (List Rat)}{i n:Nat}{v':Value}{w:World}
theorem Wp {r:Int}(e:tw r n=b)(A:ze)(c:Nat)(z:Int)(w:World):Calls prog 50 #[.agg #[.slice A n c,.int .i64 z],.int .i64 r] w (λe w'=>e=.returned (.bool b)/\Below w.heap.size w w'):=e▸Rh A n c z r w
theorem Qu {r:Int}{m:Nat}(e:tw r m=b)(A:ze)(n c:Nat)(w:World):Calls prog 58 #[.agg #[.slice A n c,.int .i64 (m:Int)],.int .i64 r] w (λe w'=>e=.returned (.bool b)/\Below w.heap.size w w'):=e▸Rg A n c m r w
section
variable {A:ze}{n c m K:Nat}{MM:List (List Rat)}{w:World}
theorem cM {j:Nat}(hT:zt w)(h:xF w A n c m MM)(z:z7 K MM)(hi:i<n)(hj:j<m)(hK:K+2<=67108864:=by omega):
  Calls prog 19 #[.agg #[.slice A n c,.int .i64 (m:Int)],.int .i64 (i:Int),.int .i64 (j:Int)] w (yi w (zl MM i j)):=by
 have HR:=λW=>za (Wp (ZD hi) A c (m:Int) W);have HC:=λW=>za (Qu (ZD hj) A n c W);obtain⟨I,t,J,bz⟩:=yz w 28 52 #[.slice A n c,.int .i64 (m:Int)] #[.bool false,.slice none 0 0,.slice none 0 0];obtain⟨g0,g1⟩:=t.c2;have HM:=za h;have HS:=za (z.at_ h.dims hi hj);have HT:=zj w (λw' hb=>hT.on hb);have HB:=za I;have C:=za t;have D:=za J;clear hT h z I t J bz;go_enter func19,ntmps19;go_wp2_with fail;refine(HR _).o.mono ?_;rintro e w1 ⟨rfl,hb⟩;have u:=za (zc HB.o hb);have s:=za (zg hb C.o);have E:=za (zg hb D.o);obtain⟨g0,g1⟩:=s.o.c2;clear hb HB C D;go_wp2_with fail;refine(HC _).o.mono ?_;rintro e w2 ⟨rfl,hb⟩;have k:=za (zc u.o hb);have F:=za (zg hb s.o);have G:=za (zg hb E.o);obtain⟨g0,g1⟩:=F.o.c2;clear hb u s E;obtain⟨ad,B,d,rfl,-,hc,ae,b3,A3,n3,c3,E3,k3,f3,rfl,-,h0,h1,h2,L⟩:=HM.o.place k.o hi hj;have i1:(0:Int)<=(i:Int):=zb;have i2:(i:Int)<(n:Int):=zb;have i3:(0:Int)<=(j:Int):=zb;have i4:(j:Int)<(m:Int):=zb;obtain⟨t1,t2,-⟩:=zu w2 52 #[.bool b3,.slice A3 n3 c3,.slice E3 k3 f3];have HL:=za (Ud t2 (L.below t1));have o:=za (zc k.o t1);have H:=za (zg t1 G.o);have M:zd (zE K [zl MM i j]):=λy hy=>by rw [List.mem_singleton.1 hy];exact HS.o
 clear L t1 t2 F G k;go_wp2_with fail;(with_reducible refine(pu (HT.o _ o.o) HL.o M.o zf zb).mono ?_);rintro e w5 ⟨b5,A5,n5,c5,E5,k5,f5,rfl,a,hb⟩;have a:zo w5 (zl MM i j) b5 A5 n5 c5 E5 k5 f5:=by
  have e:um [zl MM i j]=zl MM i j:=by rw [eI,Vg,xK]
  rw [e] at a;exact a
 have g:=zg hb H.o;obtain⟨sc0,sf0,sc1,sf1,sc2,sf2⟩:=zY g (.bool b5) (.slice A5 n5 c5);obtain⟨r0,r1,r2⟩:=(z6 g (.bool b5) (.slice A5 n5 c5) (.slice E5 k5 f5)).c3;have HG:=za (wR a g (zc o.o hb) zb);clear hb g a H o HL g0 g1 hc h0 h1 h2;go_wp2;refine bodyPost_ret (v:=.agg #[.bool b5,.slice A5 n5 c5,.slice E5 k5 f5]) (by simp [results,results19,go_sem,r0,r1,r2]) rfl ?_;exact HG.o
theorem ZG (hT:zt w)(h:xF w A n c m MM)(z:z7 K MM)(hi:i<n)(hK:K+2<=67108864:=by omega):
  Calls prog 16 #[.agg #[.slice A n c,.int .i64 (m:Int)],.int .i64 (i:Int)] w (uX w m (MM.getD i [])):=by
 have hm:=h.hm;obtain⟨j,g,bz⟩:=zu w 28 #[.slice A n c,.int .i64 (m:Int)];obtain⟨g0,g1⟩:=g.c2;have HR:=λW=>za (Wp (ZD hi) A c (m:Int) W);have HM:=za h;have HT:=zj w (λw' hb=>hT.on hb);have HS:=za (z.row (i:=i) (by rw [h.dims.rows];exact hi));have HB:=za j;have HK:=za g;clear hT h z j g bz;unfold uX;go_enter func16,ntmps16;go_wp2_with fail;refine(HR _).o.mono ?_;rintro e w1 ⟨rfl,hb⟩;have a:=za (zc HB.o hb);obtain⟨g0,g1⟩:=(zg hb HK.o).c2;obtain⟨ad,B,d,rfl,-,hc,hv⟩:=HM.o.row a.o hi;have i1:(0:Int)<=(i:Int):=zb;have i2:(i:Int)<(n:Int):=zb;have HV:=za hv;clear hb HB HK hv;go_wp2_with fail;(with_reducible refine(Uc (HT.o _ a.o) HV.o HS.o).mono ?_);rintro e w5 ⟨g5,rfl,k,o,hb⟩;have HG:=za (And.intro (qH a.o.size k) (And.intro o (zc a.o hb)));clear g0 g1 k o hb hc;go_wp2
 go_ret2
 exact⟨g5,rfl,HG.o⟩
end
section
variable {A A':ze}{n n' c c' m m' K K' q q':Nat}{MM NN:List (List Rat)}{w:World}
theorem rP:∀(args:Array Value) (w':World),Sem.run prog (callFunc 17 args) w'=.ok (.enter 17 args) w':=Go.Proofs.enters_of func17 ye rfl
theorem pD {α:Type}{xs ys:List α}{n':Nat}(hx:xs.length=n)(hy:ys.length=n')(h:n≠n'):xs≠ys:=λe=>h (by rw [<-hx,<-hy,e])
theorem my {k:Nat}(hx:xs.length=n)(hy:ys.length=n)(hk:k<n)(h:xs.getD k []≠ys.getD k []):xs≠ys:=λe=>h (by rw [e])
theorem pB (hx:xs.length=n)(hy:ys.length=n)(h:∀k,k<n->xs.getD k []=ys.getD k []):xs=ys:=by
 apply YP
 ·omega
 ·intro i h1 h2;have:=h i zb;rw [qQ,qQ,qY h1,qY h2] at this;exact this
theorem Sx {t:Bool}(e:decide (MM=NN)=t)(hT:zt w)(h:yx (z8 zo) w A n MM)(h':yx (z8 zo) w A' n' NN)(z:z7 K MM)(z':z7 K' NN)(hr:∀L ∈ MM,L.length<=64)(D:∀L ∈ NN,L.length<=64)(hn:n<=64)(hK:K<=67108864)(E:K'<=67108864):
  Calls prog 85 #[.slice A n q,.slice A' n' q',.func (.func 17) #[] #[]] w (λe w'=>e=.returned (.bool t)/\Below w.heap.size w w'):=by
 have hl:=h.len;have m:=h'.len;have hEn:=rP;by_cases hq:n=n'
 ·subst hq;have HA:=za h;have I:=za h';have HT:=zj w (λw' hb=>hT.on hb);have HS:zd (∀i,i<n->zE K (MM.getD i [])):=λi hi=>z.row zb;have O:zd (∀i,i<n->zE K' (NN.getD i [])):=λi hi=>z'.row zb;have HR:zd (∀i,i<n->(MM.getD i []).length<=64):=λi hi=>hr _ (QJ (wy zb));have N:zd (∀i,i<n->(NN.getD i []).length<=64):=λi hi=>D _ (QJ (wy zb));have M:zd (∀k,k<n->MM.getD k []≠NN.getD k []->false=t):=λk hk R=>by
   rw [<-e];exact(decide_eq_false (my hl m hk R)).symm
  have J:zd ((∀k,k<n->MM.getD k []=NN.getD k [])->true=t):=λha=>by
   rw [<-e];exact(decide_eq_true (pB hl m ha)).symm
  have hB:=qZ w.heap.size w;have e0:((n:Int) !=(n:Int))=false:=zA;have i0:(0:Int)<=(n:Int):=zb;clear h h' hT z z' hr D e hl m;go_enter func85,ntmps85;go_wp2_with fail
  go_loopg [17] (n+1) (λg ix wr=>∃(k:Nat),k<=n/\n<g+k/\ix=.int .i64 k/\zd (∀i,i<k->MM.getD i []=NN.getD i [])/\Below w.heap.size w wr)
  case atStart=>exact⟨0,qW _,zb,rfl,λi hi=>by omega,hB⟩
  case round=>
   clear hB;obtain⟨k,hkn,hg,rfl,H,hB⟩:=hrel;by_cases hlt:k<n
   ·obtain⟨ad,B,d,rfl,-,hc,hv⟩:=HA.o.get (y7 zZ) hB hlt rfl;obtain⟨ad',B',d',rfl,-,s,u⟩:=I.o.get (y7 zZ) hB hlt rfl;have Q:decide ((k:Int)<(n:Int))=true:=decide_eq_true zb;have i1:(0:Int)<=(k:Int):=zb;have i2:(k:Int)<(n:Int):=zb;have h5:=HR.o k hlt;have h6:=N.o k hlt;have v:=za (M.o k hlt);have y:=za (HS.o k hlt);have j:=za (O.o k hlt);have C:zd (MM.getD k []=NN.getD k []->∀i,i<k+1->MM.getD i []=NN.getD i []):=λhh i hi=>by
     by_cases e:i=k
     ·rw [e];exact hh
     ·exact H.o i zb
    obtain⟨X,hX⟩:∃X,MM.getD k []=X:=⟨_,rfl⟩;obtain⟨Y,hY⟩:∃Y,NN.getD k []=Y:=⟨_,rfl⟩;rw [hX] at hc hv h5 v y C;rw [hY] at s u h6 v j C;obtain⟨lx,F⟩:∃l,X.length=l:=⟨_,rfl⟩;obtain⟨ly,G⟩:∃l,Y.length=l:=⟨_,rfl⟩;rw [F] at hc hv h5;rw [G] at s u h6;have HV:=za hv;have o:=za u;have a:=za hB;clear hX hY hv u F G hB;by_cases h0:X=Y
    ·have HQ:=za (decide_eq_true h0);have P:=za (C.o h0);clear h0;go_wp2_with fail;(with_reducible refine(kV HQ.o (HT.o _ a.o) HV.o o.o y.o j.o zb zb hK E).mono ?_);rintro e w3 ⟨rfl,hb⟩;have c:=za (zc a.o hb);clear hb hc s HV o a;go_wp2;go_roundg (n - k)
     case measure=>omega
     case rel=>exact⟨k+1,zb,zb,by go_num,P,c.o⟩
    ·have HQ:=za (decide_eq_false h0);have HF:=za (v.o h0);clear h0;go_wp2_with fail;(with_reducible refine(kV HQ.o (HT.o _ a.o) HV.o o.o y.o j.o zb zb hK E).mono ?_);rintro e w3 ⟨rfl,hb⟩;have c:=za (zc a.o hb);clear hb hc s HV o a;go_wp2;go_ret;exact⟨by rw [<-HF.o];rfl,c.o⟩
   ·have hk:k=n:=zb;subst hk;have Q:decide ((k:Int)<(k:Int))=false:=zA;have HF:=za (J.o H.o);have c:=za hB;clear hB;go_wp2;go_ret;exact⟨by rw [<-HF.o];rfl,c.o⟩
 ·have e0:((n:Int) !=(n':Int))=true:=by rw [bne_iff_ne];omega
  have HF:zd (false=t):=by rw [<-e];exact(decide_eq_false (pD hl m hq)).symm
  clear h h' hT z z' hr D e hl m hq;go_enter func85,ntmps85;go_wp2;go_ret;exact⟨by rw [<-HF.o];rfl,qZ _ _⟩
theorem ql {t:Bool}(e:decide (m=m'/\MM=NN)=t)(hT:zt w)(h:xF w A n c m MM)(h':xF w A' n' c' m' NN)(z:z7 K MM)(z':z7 K' NN)(hK:K<=67108864:=by omega)(j:K'<=67108864:=by omega):
  Calls prog 38 #[.agg #[.slice A n c,.int .i64 (m:Int)],.agg #[.slice A' n' c',.int .i64 (m':Int)]] w (λe w'=>e=.returned (.bool t)/\Below w.heap.size w w'):=by
 obtain⟨a,d,g,bz⟩:=yz w 28 28 #[.slice A n c,.int .i64 (m:Int)] #[.slice A' n' c',.int .i64 (m':Int)];obtain⟨g0,g1⟩:=d.c2;obtain⟨p0,p1⟩:=g.c2;by_cases hq:m=m'
 ·have e0:((m:Int)==(m':Int))=true:=by rw [beq_iff_eq];omega
  have e1:decide (MM=NN)=t:=by
   rw [<-e];by_cases hx:MM=NN
   ·rw [decide_eq_true hx,decide_eq_true ⟨hq,hx⟩]
   ·rw [decide_eq_false hx,decide_eq_false (λy=>hx y.2)]
  have hx:=h.hm;have hy:=h'.hm;have H:=za (Sx (q:=c) (q':=c') e1 (hT.on a) (h.keep a).rows (h'.keep a).rows z z' (λL hL=>by rw [h.dims.cols L hL];exact hx) (λL hL=>by rw [h'.dims.cols L hL];exact hy) h.hn hK j);have HB:=za a;clear h h' hT z z' a d g bz e e1 hq;go_enter func38,ntmps38;go_wp2_with fail;refine H.o.mono ?_;rintro e w1 ⟨rfl,hb⟩;have i:=za (zc HB.o hb);clear hb g0 g1 p0 p1;go_wp2;go_ret;exact⟨rfl,i.o⟩
 ·have e0:((m:Int)==(m':Int))=false:=by rw [beq_eq_false_iff_ne];omega
  have HF:zd (false=t):=by rw [<-e];exact(decide_eq_false (λy=>hq y.1)).symm
  have HB:=za a;clear h h' hT z z' a d g bz e hq;go_enter func38,ntmps38;go_wp2;go_ret;exact⟨by rw [<-HF.o];rfl,HB.o⟩
end
theorem T8 {a s:Nat}{t:TypeId}{v:Value}{xs:List Value}(h:w.ownsRow a t s v n xs):∃A c,v=.slice A n c:=by
 rcases h.2 with⟨h1,h2⟩|⟨g,cap,cur,h1,_⟩
 ·subst h2;exact⟨_,_,h1⟩
 ·exact⟨_,_,h1⟩
section
variable {w w':World}{g m:Nat}{e:yt}{n cA:Nat}{k cB:Nat}{l cD:Nat}{A B D:ze}{x0 x1 x2:Value}{qs:List Nat}
theorem zw.growRow {q:Nat}{L:List Rat}(h:zw w g m e A n cA B k cB D l cD x0 x1 x2 qs)(hg:w.grownBy w' (Value.slice A n cA).ownBlock)(ho:w'.ownsRow g 41 1 v' (n+1) (uz m qs++[.slice (some ⟨q,0,none⟩) m m]))(hp:wm w' v')(hv:yh w q m L)(hq:g<q)(C:q ∉ qs)(z:(Value.slice B k cB).ownBlock≠some q):
  ∃A' cA',v'=.slice A' (n+1) cA'/\zw (w'.setCell ⟨g,0,none⟩ v') g m {e with S:=e.S++[L]} A' (n+1) cA' B k cB D l cD x0 x1 x2 (qs++[q]):=by
 have s:zh w' g 77 #[.slice A n cA,.slice B k cB,.slice D l cD,x0,x1,x2]/\(∃us,y6 zo w' g 52 (.slice B k cB) e.T us)/\ws w' g (.slice D l cD) e.P/\RV w' e.rd x0 x1 x2/\(∀i,i<e.S.length->yh w' (qs.getD i 0) m (e.S.getD i []))/\yh w' q m L:=by
  cases hA:(Value.slice A n cA).ownBlock with
  |none=>
    rw [hA] at hg;have hb:=su hg;have h2:=h.below hb;exact⟨h2.blk,h2.times,h2.perm,h2.rsd,h2.rows.row,hv.keep hb⟩
  |some b=>
    rw [hA] at hg;obtain⟨b1,b2,b3,b4,b5⟩:=h.turnA hA (zJ.grown hg);obtain⟨_,cs,h1,hs⟩:=h.rows.at_ hA;obtain⟨ds,h2,_⟩:=hv.blk;exact⟨b1,b2,b3,b4,b5,hv.turn (zJ.grown hg) h1 (oP hs) (xi h2 h1 zf)⟩
 obtain⟨b1,⟨us,b2⟩,b3,b4,b5,b6⟩:=s;have hn:=h.hn;have hl:=h.rows.len;have c : vw w' g v' m (e.S ++ [L]) (qs ++ [q]):={
  own:=by
   have e1:uz m (qs++[q])=uz m qs++[.slice (some ⟨q,0,none⟩) m m]:=by unfold uz;rw [YY];rfl
   rw [e1,qB,hn];exact ho
  sl:=hp
  len:=by rw [qB,qB,hl];rfl
  row:=λi hi=>by
   rw [qB] at hi;by_cases hlt:i<e.S.length
   ·rw [qQ,QG zb,<-qQ,qQ (l:=e.S++[L]),QG hlt,<-qQ];exact b5 i hlt
   ·have y:i=e.S.length:=by simp at hi;omega
    subst y;rw [qQ,qT zb,hl,XH,qQ (l:=e.S++[L]),qT zb,XH];exact b6
  lo:=λq9 h9=>by
   rcases List.mem_append.1 h9 with h9|h9
   ·exact h.rows.lo q9 h9
   ·rw [List.mem_singleton.1 h9];exact hq
  nd:=by
   rw [List.nodup_append];refine⟨h.rows.nd,zA,λa ha b hb=>?_⟩;rw [List.mem_singleton.1 hb];intro e9;exact C (e9▸ha)}
 have d:=h.nok;have ht:=zJ.set_ g 0 w' v';have t:v'.ownBlock≠some g:=λe9=>by
  obtain⟨_,cs,h1,_⟩:=c.at_ e9;exact xi h1 b1 zf rfl
 have u:(Value.slice B k cB).ownBlock≠some g:=λe9=>by obtain⟨_,cs,h1,_⟩:=h.atB e9;exact xi h1 h.blk zf rfl
 have v:(Value.slice D l cD).ownBlock≠some g:=λe9=>by obtain⟨_,cs,h1,_⟩:=h.atD e9;exact xi h1 h.blk zf rfl
 have o:=c.turn ht b1 d t (λe9=>by have:=c.lo g e9;omega);have E:∀q9,(Value.slice B k cB).ownBlock=some q9->q9 ∉ qs++[q]:=λq9 h9 h8=>by
  rcases List.mem_append.1 h8 with h8|h8
  ·exact h.tq q9 h9 h8
  ·rw [List.mem_singleton.1 h8] at h9;exact z h9
 have j:(e.S++[L]).length=n+1:=by rw [qB,hn];rfl
 obtain⟨A',c',eA⟩:=T8 o.own;rw [j] at eA;subst eA;exact⟨A',c',rfl,{blk:=b1.set_ 0 _,hn:=j,hk:=h.hk,hl:=h.hl,rows:=o,times:=⟨us,b2.turn ht b1 d u⟩,perm:=b3.turn ht v,rsd:=b4.off b1 d ht.1,tq:=E}⟩
theorem zw.growTime {x:Rat}{us:List Value}{C F:ze}{p d u f:Nat}(h:zw w g m e A n cA B k cB D l cD x0 x1 x2 qs)(hu:y6 zo w g 52 (.slice B k cB) e.T us)(hg:w.grownBy w' (Value.slice B k cB).ownBlock)(ho:w'.ownsRow g 52 3 v' (k+1) (us++[.bool b,.slice C p d,.slice F u f]))(hp:wH w' v')(hx:zo w x b C p d F u f)(i:v'.ownBlock=(Value.slice B k cB).ownBlock\/v'.ownBlock=some w.heap.size):
  ∃B' cB',v'=.slice B' (k+1) cB'/\zw (w'.setCell ⟨g,1,none⟩ v') g m {e with T:=e.T++[x]} A n cA B' (k+1) cB' D l cD x0 x1 x2 qs:=by
 have j:zh w' g 77 #[.slice A n cA,.slice B k cB,.slice D l cD,x0,x1,x2]/\vw w' g (.slice A n cA) m e.S qs/\ws w' g (.slice D l cD) e.P/\RV w' e.rd x0 x1 x2:=by
  cases hB:(Value.slice B k cB).ownBlock with
  |none=>
    rw [hB] at hg;have h2:=h.below (su hg);exact⟨h2.blk,h2.rows,h2.perm,h2.rsd⟩
  |some b=>
    rw [hB] at hg;exact h.turnB hB (zJ.grown hg)
 obtain⟨b1,b2,b3,b4⟩:=j;have hk:=h.hk;have v:=y6.grow zZ hu hx ho zb hg hp;have a:=h.nok;have ht:=zJ.set_ g 1 w' v';have y:∀q,v'.ownBlock=some q->q ∉ qs:=λq e9 h9=>by
  rcases i with h1|h1
  ·exact h.tq q (h1▸e9) h9
  ·rw [h1] at e9;injection e9 with e9;obtain⟨_,cs,h2,_⟩:=h.atQ h9;have:=h2.lt;omega
 have s:v'.ownBlock≠some g:=λe9=>by
  rcases i with h1|h1
  ·obtain⟨_,cs,h2,_⟩:=h.atB (h1▸e9);exact xi h2 h.blk zf rfl
  ·rw [h1] at e9;injection e9 with e9;have:=h.lt;omega
 have o:(Value.slice A n cA).ownBlock≠some g:=λe9=>by obtain⟨_,cs,h1,_⟩:=h.rows.at_ e9;exact xi h1 h.blk zf rfl
 have t:(Value.slice D l cD).ownBlock≠some g:=λe9=>by obtain⟨_,cs,h1,_⟩:=h.atD e9;exact xi h1 h.blk zf rfl
 have c:=v.turn ht b1 a s;obtain⟨B',c',eB,_⟩:=c.shape;rw [qB,hk] at eB;have eB:v'=.slice B' (k+1) c':=eB;subst eB;exact⟨B',c',rfl,{blk:=b1.set_ 1 _,hn:=h.hn,hk:=by show(e.T++[x]).length=k+1;rw [qB,hk];rfl,hl:=h.hl,rows:=b2.turn ht b1 a o (λe9=>by have:=h.rows.lo g e9;omega),times:=⟨_,c⟩,perm:=b3.turn ht t,rsd:=b4.off b1 a ht.1,tq:=y}⟩
theorem zw.growPerm {c:Nat}(h:zw w g m e A n cA B k cB D l cD x0 x1 x2 qs)(hg:w.grownBy w' (Value.slice D l cD).ownBlock)(ho:w'.ownsRow g 3 1 v' (l+1) (vj e.P++[.int .i64 (c:Int)]))(hp:oo lN w' v'):
  ∃D' cD',v'=.slice D' (l+1) cD'/\zw (w'.setCell ⟨g,2,none⟩ v') g m {e with P:=e.P++[c]} A n cA B k cB D' (l+1) cD' x0 x1 x2 qs:=by
 have j:zh w' g 77 #[.slice A n cA,.slice B k cB,.slice D l cD,x0,x1,x2]/\vw w' g (.slice A n cA) m e.S qs/\(∃us,y6 zo w' g 52 (.slice B k cB) e.T us)/\RV w' e.rd x0 x1 x2:=by
  cases hD:(Value.slice D l cD).ownBlock with
  |none=>
    rw [hD] at hg;have h2:=h.below (su hg);exact⟨h2.blk,h2.rows,h2.times,h2.rsd⟩
  |some b=>
    rw [hD] at hg;exact h.turnD hD (zJ.grown hg)
 obtain⟨b1,b2,⟨us,b3⟩,b4⟩:=j;have hl:=h.hl;have i:ws w' g v' (e.P++[c]):=⟨by
  have:vj (e.P++[c])=vj e.P++[.int .i64 (c:Int)]:=by unfold vj;rw [YY];rfl
  rw [this,qB,hl];exact ho,hp⟩
 have a:=h.nok;have ht:=zJ.set_ g 2 w' v';have o:(Value.slice A n cA).ownBlock≠some g:=λe9=>by obtain⟨_,cs,h1,_⟩:=h.rows.at_ e9;exact xi h1 h.blk zf rfl
 have s:(Value.slice B k cB).ownBlock≠some g:=λe9=>by obtain⟨_,cs,h1,_⟩:=h.atB e9;exact xi h1 h.blk zf rfl
 have t:v'.ownBlock≠some g:=λe9=>by
  rcases i.own.2 with⟨h1,_⟩|⟨g',cap,cur,e1,e2,e3,_⟩
  ·rw [h1] at e9;cases e9
  ·rw [e1] at e9;simp [Value.ownBlock] at e9;subst e9;exact xi e3 b1 zf rfl
 have d:=i.turn ht t;obtain⟨D',c',eD,_⟩:=d.shape;rw [qB,hl] at eD;have eD:v'=.slice D' (l+1) c':=eD;subst eD;exact⟨D',c',rfl,{blk:=b1.set_ 2 _,hn:=h.hn,hk:=h.hk,hl:=by show(e.P++[c]).length=l+1;rw [qB,hl];rfl,rows:=b2.turn ht b1 a o (λe9=>by have:=h.rows.lo g e9;omega),times:=⟨us,b3.turn ht b1 a s⟩,perm:=d,rsd:=b4.off b1 a ht.1,tq:=h.tq}⟩
theorem zw.ownA (h:zw w g m e A n cA B k cB D l cD x0 x1 x2 qs):∀q,(Value.slice A n cA).ownBlock=some q->g<=q:=λq e9=>(h.rows.at_ e9).1
theorem zw.ownB (h:zw w g m e A n cA B k cB D l cD x0 x1 x2 qs):∀q,(Value.slice B k cB).ownBlock=some q->g<=q:=λq e9=>(h.atB e9).1
theorem zw.ownD (h:zw w g m e A n cA B k cB D l cD x0 x1 x2 qs):∀q,(Value.slice D l cD).ownBlock=some q->g<=q:=λq e9=>(h.atD e9).1
end
theorem zw.new {b2:Bool}{A2 E2:ze}{n2 c2 k2 f2:Nat}(w:World)(m:Nat)(h2:zo w 1 b2 A2 n2 c2 E2 k2 f2):zw (w.alloc (.cells #[.slice none 0 0,.slice none 0 0,.slice none 0 0,.bool b2,.slice A2 n2 c2,.slice E2 k2 f2] 77)) w.heap.size m ⟨[],[],[],1⟩ none 0 0 none 0 0 none 0 0 (.bool b2) (.slice A2 n2 c2) (.slice E2 k2 f2) []:=by
 obtain⟨hb,hk,-⟩:=zu w 77 #[.slice none 0 0,.slice none 0 0,.slice none 0 0,.bool b2,.slice A2 n2 c2,.slice E2 k2 f2];exact{blk:=hk,hn:=rfl,hk:=rfl,hl:=rfl,rows:=vw.nil _ _ _,times:=⟨[],y6.nil _ _ _⟩,perm:=ws.nil _ _,rsd:=RV.of (h2.below hb),tq:=λq h=>by simp [Value.ownBlock] at h}
def iT (M:List (List Rat))(i:Nat):yt:=⟨vm (M.take i),(M.take i).map zI,List.range i,vM (M.take i)⟩
theorem nP (h:M.length=n):iT M n=sn M:=by
 unfold iT sn;rw [qV zb,h]
theorem Q3 (h:i<M.length):(M.take (i+1)).map zI=(M.take i).map zI++[zI (M.getD i [])]:=by
 rw [QZ h,YY,qQ,qY h];rfl
theorem Tg {P:Program}{Pc:Value->Prop}{D:Array Oper}{rest:List Oper}{o:Oper}{a:Act}{Q:Exit->Act->World->Prop}(G:o.guard=none)(s x:Operand)(t:TypeId)
  (ho:o.op=.call {callee:=.builtin .append,args:=#[s,x],argTypes:=#[t,t]})
  (g:Nat) (e:TypeId) (i:TypeInfo) (z:Value) (size bytes:Nat) (ht:P.underlying t=some (.slice e)) (hi:P.info? e=some i) (hz:i.zero=some z)
  (B:i.size=size) (F:i.bytes=bytes) (J:z.cells.size=size) (hsz:0<size)
  (v:Value) (n:Nat) (xs:List Value) (hs:a.eval s=v) (C:w.ownsRow g e size v n xs)
  (ad:Addr) (m c:Nat) (d:List Value) (hx:a.eval x=.slice (some ad) m c) (hl:d.length=m*size) (A:∀j u,d[j]?=some u->w.cell? (ad.add j)=some u) (h1:∀u ∈ d,u.oneCell'=true)
  (E:n+m<=maxLen) (k:(n+m)*bytes<=140737488355328) (y:g<=w.heap.size)
  (hv:oo Pc w v) (I:∀u ∈ z.cells.toList,Pc u) (H:∀u ∈ d,Pc u)
  (h:∀v' w',w'.ownsRow g e size v' (n+m) (xs++d)->w.grownBy w' v.ownBlock->(v'.ownBlock=v.ownBlock\/v'.ownBlock=some w.heap.size)->oo Pc w' v'->wpList P D Q rest (a.put o.dst v') w'):
  wpList P D Q (o::rest) a w:=by
 refine wpList_plain G λK hK=>?_;obtain⟨v',w',hr,h2,h3,h4,h5⟩:=Tm (P:=P) w g t o.type e i z size bytes ht hi hz B F J hsz v n xs C ad m c d hl A h1 E k y hv I H;unfold Oper.wp execOp;simp only [ho,resolve,invoke,builtin,Sem.run_bind,Sem.run_pure,Result.andThen_ok,YG,yK,List.map_nil,hs,hx,hr];exact hK _ _ (h v' w' h2 h3 h4 h5)
