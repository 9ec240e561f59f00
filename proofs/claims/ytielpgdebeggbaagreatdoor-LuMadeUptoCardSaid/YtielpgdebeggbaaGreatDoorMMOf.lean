/- What this claim leans on. -/
import Derived.Test.YtielpgdebeggbaaGreatDoorMENext
set_option linter.unusedVariables false
set_option linter.unusedSimpArgs false
namespace Go.Proofs.YtielpgdebeggbaaGreatDoor
open Go Go.RowKit Go.Proofs.Tryz
set_option maxHeartbeats 16000000
set_option maxRecDepth 100000
variable {z:Int}{M:List (List Rat)}{zs:List Int}{L:List Rat}{K c d gc i m n:Nat}{a0:Nat->Nat->Rat}{w:World}{A Q:ze}
def sj (M:List (List Rat))(z:Int):Bool:=M.any λL=> !decide (((L.length:Nat):Int)=z)
theorem rP {α:Type}(p:α->Bool)(xs:List α)(d:α)(k:Nat)(h:k<xs.length):(xs.take (k+1)).any p=((xs.take k).any p||p (xs.getD k d)):=by
 rw [QG h,List.any_append,qQ,qY h];simp
theorem kQ {α:Type}(p:α->Bool)(xs:List α)(d:α)(k:Nat)(h:k<xs.length)(hp:p (xs.getD k d)=true):xs.any p=true:=by
 refine List.any_eq_true.2 ⟨xs.getD k d,?_,hp⟩;rw [qQ,qY h];exact xU h
theorem qg (h:zM M n m):sj M (m:Int)=false:=by
 unfold sj;refine List.any_eq_false.2 λL hL=>?_;have:=h.cols L hL;simp;omega
theorem SN {q:Nat}(h:yx (yg zo) w Q n M)(hk:zh w gc 3 #[.int .i64 z])(hn:n<=1048576):
  Calls prog 88 #[.slice Q n q,.func (.func 79) #[] #[.pointer (some ⟨gc,0,none⟩)]] w (λe w'=>∃k:Int,e=.returned (.int .i64 k)/\decide (k>=0)=sj M z/\Below w.heap.size w w'):=by
 have hl:=h.len;have HL:=zb hl;have HR:=zb h;have HK:=zk w (λw' hb=>zg hb hk);have hEn:=jb;have hB:=qZ w.heap.size w;have HS:zd (∀k,k<n->(M.take (k+1)).any (λL:List Rat=> !decide (((L.length:Nat):Int)=z))=((M.take k).any (λL:List Rat=> !decide (((L.length:Nat):Int)=z))||(λL:List Rat=> !decide (((L.length:Nat):Int)=z)) (M.getD k []))):=λk hk=>rP (λL:List Rat=> !decide (((L.length:Nat):Int)=z)) M [] k za;have HA:zd (∀k,k<n->(λL:List Rat=> !decide (((L.length:Nat):Int)=z)) (M.getD k [])=true->M.any (λL:List Rat=> !decide (((L.length:Nat):Int)=z))=true):=λk hk=>kQ (λL:List Rat=> !decide (((L.length:Nat):Int)=z)) M [] k za;have i0:(0:Int)<=(n:Int):=za;clear h hk hl;unfold sj;go_enter func88,ntmps88;go_wp2_with fail
 go_loopg [8] (n+1) (λg ix wr=>∃(k:Nat),k<=n/\n<g+k/\ix=.int .i64 k/\zd ((M.take k).any (λL:List Rat=> !decide (((L.length:Nat):Int)=z))=false)/\Below w.heap.size w wr)
 case atStart=>exact⟨0,qM _,za,rfl,rfl,hB⟩
 case round=>
  clear hB;obtain⟨k,hkn,hg,rfl,o,hB⟩:=hrel;by_cases hlt:k<n
  ·have s:decide ((k:Int)<(n:Int))=true:=decide_eq_true za;have i1:(0:Int)<=(k:Int):=za;have i2:(k:Int)<(n:Int):=za;have m:=zb (HS.o k hlt);have j:=zb (HA.o k hlt);obtain⟨ad,B,d,rfl,-,hc,-⟩:=HR.o.get (xe z6) hB hlt rfl;obtain⟨L,hL⟩:∃L,M.getD k []=L:=⟨_,rfl⟩;rw [hL] at hc;rw [hL] at m j;obtain⟨b,i⟩:∃b,(!decide (((L.length:Nat):Int)=z))=b:=⟨_,rfl⟩;rw [i] at m j;have HC:∀W,Below w.heap.size w W->zd (Calls prog 79 #[.slice B L.length d,.pointer (some ⟨gc,0,none⟩)] W (λe w'=>e=.returned (.bool b)/\Below W.heap.size W w')):=λW hW=>by
    have q:=Pk (V:=B) (cv:=d) (k:=L.length) (HK.o W hW);rw [i] at q;exact q
   have HB:=zb hB;clear hB hL;cases b
   ·go_wp2_with fail;refine(HC _ HB.o).o.mono ?_;rintro e w3 ⟨rfl,hb⟩;have HZ:zd ((M.take (k+1)).any (λL:List Rat=> !decide (((L.length:Nat):Int)=z))=false):=by show _=_;rw [m.o,o.o];rfl
    have a:=zb (zc HB.o hb);clear hb i hc HC;go_wp2;go_roundg (n - k)
    case measure=>omega
    case rel=>exact⟨k+1,za,za,by go_num,HZ,a.o⟩
   ·go_wp2_with fail;refine(HC _ HB.o).o.mono ?_;rintro e w3 ⟨rfl,hb⟩;have HZ:=zb (j.o (by first|rfl|trivial));have a:=zb (zc HB.o hb);clear hb i hc HC;go_wp2;go_ret;exact⟨(k:Int),rfl,by rw [HZ.o];exact decide_eq_true za,a.o⟩
  ·have s:decide ((k:Int)<(n:Int))=false:=decide_eq_false za;have HF:zd (M.any (λL:List Rat=> !decide (((L.length:Nat):Int)=z))=false):=by
    have h1:=o.o;rw [qV (by have:=HL.o;omega)] at h1;exact h1
   have a:=zb hB;clear hB;go_wp2;go_ret;exact⟨-1,rfl,by rw [HF.o];rfl,a.o⟩
theorem Sb {q:Nat}(h:yx (yg zo) w Q n M)(hk:zh w gc 3 #[.int .i64 z])(hn:n<=1048576):
  Calls prog 81 #[.slice Q n q,.func (.func 79) #[] #[.pointer (some ⟨gc,0,none⟩)]] w (λe w'=>e=.returned (.bool (sj M z))/\Below w.heap.size w w'):=by
 have H:=zb (SN (q:=q) h hk hn);obtain⟨b,hb⟩:∃b,sj M z=b:=⟨_,rfl⟩;rw [hb] at H⊢;clear h hk hb;go_enter func81,ntmps81;go_wp2_with fail;refine H.o.mono ?_;rintro e w1 ⟨k,rfl,hk,hb⟩;have hk2:decide (0<=k)=b:=hk;have HB:=zb hb;clear hb;go_wp2;go_ret;exact⟨rfl,HB.o⟩
section
variable {Q:ze}{n q:Nat}{M:List (List Rat)}{z:Int}{w:World}
theorem aJ {m:Nat}(hT:zu w)(h:yx (yg zo) w Q n M)(hd:zM M n m)(hn:n<=64)(hm:m<=64)(z:zW K M)(hK:K+2<=67108864:=by omega):Calls prog 35 #[.int .i64 (m:Int),.slice Q n q] w (fU w n m M):=by
 have hmf:=Y4;obtain⟨k,a,o,t,bz⟩:=xd w 3 26 28 #[.int .i64 (m:Int)] #[.slice Q n q] #[.slice none 0 0,.int .i64 0];have H:=λW=>zb (Y5 (Yf hn hm) W);have hc:=Sb (q:=q) (h.below (xe z6) k) a za;rw [qg hd] at hc;have HC:=zb hc;have HM:zd (∀W,Below w.heap.size w W->zh W (w.heap.size+1) 26 #[.slice Q n q]->Calls prog 82 #[.int .i64 (n:Int),.int .i64 (m:Int),.func (.func 83) #[] #[.pointer (some ⟨w.heap.size+1,0,none⟩)]] W (sv W n m M)):=λW hW hk=>by
  have hh:=h.below (xe z6) hW;have q9:=Ye (K:=K) (zl M) 83 #[.pointer (some ⟨w.heap.size+1,0,none⟩)] n m W (hT.on hW) ⟨jc,λr c hr hc w' hb=>gW (hh.below (xe z6) hb) hd (zg hb hk) hr hc⟩ (λr c hr hc=>z.at_ hd hr hc) hn hm hK;rw [hd.eq] at q9;exact q9
 have HK:=zb t;have HS:=zb o;have HB:=zb k;have y0:=a.c1;have y1:=o.c1;have hl0:=a.lt;have s:=zb a;clear k a o t bz hT h z hd hc;go_enter func35,ntmps35;go_wp2_with fail;refine(H _).o.mono ?_;rintro e w1 ⟨rfl,rfl⟩;go_wp2_with fail;refine HC.o.mono ?_;rintro e w1 ⟨rfl,hb⟩;have g:=zb (zc HB.o hb);have i:=zb (zg hb HK.o);have j:=zb (zg hb HS.o);have y0:=(zg hb s.o).c1;have y1:=j.o.c1;clear hb HB HK HS s HC H;go_wp2_with fail;refine(HM.o _ g.o j.o).mono ?_;clear y0 y1;rintro e w3 ⟨A3,c3,rfl,y,u,hb⟩;have d:=zg hb i.o;obtain⟨sc0,sf0,sc1,sf1⟩:=uH d (.slice A3 n c3);obtain⟨r0,r1⟩:=(uG d (.slice A3 n c3) (.int .i64 (m:Int))).c2;have HG:=zb (je y (λad e=>qJ i.o.lt (u ad e)) d (zc g.o hb) za);clear hb d y u i g HM j;go_wp2;refine bodyPost_ret (v:=.tuple #[.agg #[.slice A3 n c3,.int .i64 (m:Int)],.bool true]) (by simp [results,results35,go_sem,r0,r1]) rfl ?_;exact HG.o
end
section
variable {w:World}{A:ze}{n c m K:Nat}{MM:List (List Rat)}
theorem Wo (hT:zu w)(h:xm w A n c m MM)(z:zW K MM)(hK:K+2<=67108864:=by omega):
  Calls prog 74 #[.agg #[.slice A n c,.int .i64 (m:Int)]] w (kz w n MM):=by
 obtain⟨hn,hm⟩:=And.intro h.hn h.hm;have HM:=zk w (λw' hb=>h.keep hb);have HT:=zk w (λw' hb=>hT.on hb);have HZ:=zb z;have HR:=λW=>zb (oO A n c (m:Int) W);have D:zd (MM.length=n):=h.dims.rows;have J:zd (∀i,i<n->(MM.getD i []).length=m):=λi hi=>h.dims.row hi;have HG:zd (∀i,i<n->MM[i]?=some (MM.getD i [])):=λi hi=>ws (by have:=h.dims.rows;omega);obtain⟨Y,hY⟩:=cV n za;have P:=λW=>(hY W).1;have j:=zb (λW=>(hY W).2);obtain⟨E,s,bz⟩:=zA w 28 #[.slice A n c,.int .i64 (m:Int)];obtain⟨g0,g1⟩:=s.c2;have HB:=zb E;have HK:=zb s;clear h hY E s bz hT z;unfold kz;have i0:(0:Int)<=(n:Int):=za;go_enter func74,ntmps74;go_wp2_with fail;generalize w.alloc (.cells #[.slice A n c,.int .i64 (m:Int)] 28)=W1 at*;refine(HR _).o.mono ?_;rintro eo w1 ⟨rfl,hb⟩;have u:=zg hb HK.o;have F:=zc HB.o hb;clear hb g0 g1 HR HB HK;go_wp2_with fail;clear P;have a:=j.o w1;have t:=(zA w1 41 Y).1;have hK:=zg t u;have hB:=zc F t;have hlt1:=u.lt;rw [<-sV [] MM n] at a;generalize w1.alloc (.cells Y 41)=W2 at*;clear j t u F;generalize w1.heap.size=gp at*
 go_loopg [10] (n+1) (λg ix wr=>∃(k:Nat),k<=n/\n<g+k/\ix=.int .i64 k/\wn (yg zo) wr 41 gp n (vC [] MM n k)/\Below w.heap.size w wr/\zh wr w.heap.size 28 #[.slice A n c,.int .i64 (m:Int)])
 case atStart=>exact⟨0,qM _,za,rfl,a,hB,hK⟩
 case round=>
  clear a hB hK;obtain⟨i,hkn,hg,rfl,a,hB,hK⟩:=hrel;by_cases hlt:i<n
  ·have N:decide ((i:Int)<(n:Int))=true:=decide_eq_true za;have i1:(0:Int)<=(i:Int):=za;have i2:(i:Int)<(n:Int):=za;obtain⟨g0,g1⟩:=hK.c2;have o:=zb a;have d:=zb hB;have C:=zb hK;have B:=zb (HG.o i hlt);clear a hB hK;go_wp2_with fail;(with_reducible refine(Tq (HT.o _ d.o) (HM.o _ d.o) HZ.o hlt).mono ?_);rintro eo w5 ⟨g5,rfl,hg5,G,hb⟩;clear g0 g1;have v:=o.o.below (xe z6) hb;have y:=wn.set_ (xe z6) v hlt (yt G) (J.o i hlt);rw [sR [] MM n i D.o hlt _ B.o] at y;obtain⟨q0,sc0,sf0⟩:=v.ready hlt;have M:=zb y;have H:=zb (zQ (p:=⟨gp,i,none⟩) (.slice (some ⟨g5,0,none⟩) m m) (show w.heap.size<=gp by omega) (zc d.o hb));have I:=zb (zh.far (p:=⟨gp,i,none⟩) (zg hb C.o) (by show w.heap.size≠gp;omega) (.slice (some ⟨g5,0,none⟩) m m));clear v y G hb o d C B;go_wp2;go_roundg (n - i)
   case measure=>omega
   case rel=>exact⟨i+1,za,za,by go_num,M.o,H.o,I.o⟩
  ·have O:i=n:=za;subst O;have N:decide ((i:Int)<(i:Int))=false:=zF;have L:=zb (sQ [] MM i D.o▸a);have d:=zb hB;clear a hB hK;go_wp2;go_ret;exact⟨gp,rfl,za,L.o,d.o⟩
end
section
variable {w:World}{g:Nat}{st:wL}{rd:Rat}{A:ze}{n cA:Nat}{B:ze}{k cB:Nat}{x0 x1 x2 y0 y1 y2:Value}
def tA (r:Rat)(M:List (List Rat)):List (List Rat):=M.map (zL r)
theorem SL (hT:zu w)(hE:yb w g st rd A n cA B k cB x0 x1 x2 y0 y1 y2)(hd:zM st.S n m)(z:zW K st.S)(zp:zn K st.p)(hp:st.p≠0)(hn:n<=64)(hm:m<=1073741824)(hK:K<=33554432:=by omega):
  Calls prog 119 #[.pointer (some ⟨g,0,none⟩)] w (kz w n (tA st.p⁻¹ st.S)):=by
 obtain⟨b0,A0,n0,c0,E0,k0,f0,rfl,rfl,rfl,P⟩:=hE.lead;obtain⟨vs,j⟩:=hE.rows;obtain⟨A',c',M,-,-,hL,-⟩:=j.shape hE.hn;have HL:zd (yx (VZ g) w A n st.S):=by injection M with q1 q2 q3;subst q1;exact hL
 have HP:=zk w (λw' hb=>P.below hb);have HC:=zk w (λw' hb=>(hE.below hb).cells);have HT:=zk w (λw' hb=>hT.on hb);have J:=zb zp;have ab:=zb hp;have D:zd ((tA st.p⁻¹ st.S).length=n):=by unfold tA;rw [QH];exact hd.rows
 have I:zd (∀i,i<n->(st.S.getD i []).length=m):=λi hi=>hd.row hi;have ag:zd (∀i,i<n->zD K (st.S.getD i [])):=λi hi=>z.row (by have:=hd.rows;omega);have HG:zd (∀i,i<n->(tA st.p⁻¹ st.S)[i]?=some (zL st.p⁻¹ (st.S.getD i []))):=λi hi=>by
  unfold tA;rw [qW,ws (d:=[]) (by have:=hd.rows;omega)];rfl
 obtain⟨ys,U⟩:∃ys,tA st.p⁻¹ st.S=ys:=⟨_,rfl⟩;rw [U] at D HG⊢;obtain⟨Y,hY⟩:=cV n za;have aj:=λW=>(hY W).1;have v:=zb (λW=>(hY W).2);obtain⟨p0,-,p2,p3,p4,-⟩:=HC.o _ (qZ _ _);have i0:(0:Int)<=(n:Int):=za;unfold kz;clear hT hE hd z zp hp P j M hL hY U;go_enter func119,ntmps119;go_wp2_with fail;clear p0 p2 p3 p4;(with_reducible refine(gC st.p b0 A0 n0 c0 E0 k0 f0 _ (HT.o _ (qZ _ _)) (HP.o _ (qZ _ _)) (J.o.fit (HP.o _ (qZ _ _)) za) ab.o).mono ?_);rintro eo w5 ⟨b5,A5,n5,c5,E5,k5,f5,rfl,T,hb⟩;obtain⟨E,L,-⟩:=zA w5 52 #[.bool b5,.slice A5 n5 c5,.slice E5 k5 f5];have hI:=T.below E;have o:=zc hb E;have hs5:=hb.size;obtain⟨p0,-⟩:=HC.o _ o;obtain⟨q0,-⟩:=HC.o _ (zc o (zA (w5.alloc (.cells #[.bool b5,.slice A5 n5 c5,.slice E5 k5 f5] 52)) 41 Y).1);clear hb T E;go_wp2_with fail;clear aj p0 q0;have e1:(w5.alloc (.cells #[.bool b5,.slice A5 n5 c5,.slice E5 k5 f5] 52)).heap.size=w5.heap.size+1:=zF;generalize w5.alloc (.cells #[.bool b5,.slice A5 n5 c5,.slice E5 k5 f5] 52)=W6 at*;have a:=v.o W6;have s:=(zA W6 41 Y).1;have hK:=zg s L;have hB:=zc o s;have hI:=hI.below s;rw [e1] at a;obtain⟨gp,N⟩:∃q,w5.heap.size+1=q:=⟨_,rfl⟩;have hltp:w5.heap.size<gp:=za;rw [N] at a⊢;rw [<-sV [] ys n] at a;generalize W6.alloc (.cells Y 41)=W7 at*;clear v s L o e1 N;generalize w5.heap.size=g5 at*
 go_loopg [27] (n+1) (λgg ix wr=>∃(i:Nat),i<=n/\n<gg+i/\ix=.int .i64 i/\wn (yg zo) wr 41 gp n (vC [] ys n i)/\Below w.heap.size w wr/\zh wr g5 52 #[.bool b5,.slice A5 n5 c5,.slice E5 k5 f5]/\zo wr st.p⁻¹ b5 A5 n5 c5 E5 k5 f5)
 case atStart=>exact⟨0,qM _,za,rfl,a,hB,hK,hI⟩
 case round=>
  clear a hB hK hI;obtain⟨i,hkn,hg,rfl,a,hB,hK,hI⟩:=hrel;by_cases hlt:i<n
  ·have ai:decide ((i:Int)<(n:Int))=true:=decide_eq_true za;have i1:(0:Int)<=(i:Int):=za;have i2:(i:Int)<(n:Int):=za;obtain⟨ad,Bi,di,rfl,-,ah,R⟩:=HL.o.get (vf g) hB hlt (I.o i hlt);obtain⟨p0,p1,p2⟩:=hK.c3;have HV:=zb R.1;have y:=zb a;have h:=zb hB;have H:=zb hK;have C:=zb hI;have G:=zb (HG.o i hlt);have af:=zb (ag.o i hlt);have aa:=zb (I.o i hlt);generalize st.S.getD i []=row at*;clear a hB hK hI R;go_wp2_with fail;(with_reducible refine(vB (HT.o _ h.o) C.o HV.o J.o.inv af.o).mono ?_);rintro eo w8 ⟨g8,rfl,hg8,O,hb⟩;clear p0 p1 p2 ah;have u:=y.o.below (xe z6) hb;have F:=wn.set_ (xe z6) u hlt (yt O) (by rw [tV aa.o]);rw [sR [] ys n i D.o hlt _ G.o] at F;obtain⟨q0,sc0,sf0⟩:=u.ready hlt;obtain⟨cs9,t,Q,-⟩:=u.blk;have ae:=zb F;have V:=zb (zQ (p:=⟨gp,i,none⟩) (.slice (some ⟨g8,0,none⟩) m m) (show w.heap.size<=gp by omega) (zc h.o hb));have Z:=zb (zh.far (p:=⟨gp,i,none⟩) (zg hb H.o) (by show g5≠gp;omega) (.slice (some ⟨g8,0,none⟩) m m));have X:=zb (wD t (tZ Q) (zZ.of_far ((zT.refl gp _).set_ i (.slice (some ⟨g8,0,none⟩) m m))) (C.o.below hb));clear u F O hb y h H C G t Q;go_wp2;go_roundg (n - i)
   case measure=>omega
   case rel=>exact⟨i+1,za,za,by go_num,ae.o,V.o,Z.o,X.o⟩
  ·have t:i=n:=za;subst t;have ai:decide ((i:Int)<(i:Int))=false:=zF;have ac:=zb (sQ [] ys i D.o▸a);have h:=zb hB;clear a hB hK hI;go_wp2;go_ret;exact⟨gp,rfl,za,ac.o,h.o⟩
end
section
variable {w w':World}{g:Nat}{st:wL}{rd:Rat}{A:ze}{n cA:Nat}{B:ze}{k cB:Nat}{x0 x1 x2 y0 y1 y2:Value}
theorem PC (hT:zu w)(hE:yb w g st rd A n cA B k cB x0 x1 x2 y0 y1 y2)(a:wQ n m c a0 st)(ha:∀i,i<n->∀j,j<m->LI K (a0 i j))(hc:c<m)(hn:n<=64)(hm:m<=128)(d:0<g)(hK:260*K+269<=33554432:=by omega):
  Calls prog 117 #[.pointer (some ⟨g,0,none⟩),.int .i64 (c:Int)] w (eY w g n (oY c st) rd):=by
 by_cases hb:wG c st<st.S.length - st.ld.length
 ·exact Sg hT hE a ha hc hn hm d hb hK
 ·exact SK hT hE a ha hc hn hb hK
theorem yb.grownA (h:yb w g st rd A n cA B k cB x0 x1 x2 y0 y1 y2)(hg:w.grownBy w' (Value.slice A n cA).ownBlock):zh w' g 106 #[.slice A n cA,.slice B k cB,x0,x1,x2,y0,y1,y2]/\x6 w' g (.slice B k cB) st.ld/\RV w' st.p x0 x1 x2/\RV w' rd y0 y1 y2:=by
 cases hv:(Value.slice A n cA).ownBlock with
 |none=>
   rw [hv] at hg;have:=h.below (uI hg);exact⟨this.blk,this.lds,this.lead,this.rsd⟩
 |some q=>
   rw [hv] at hg;obtain⟨i,cs,hk,hs⟩:=h.neA hv;have ho:=zZ.of_grown hg;refine⟨(hg.block g h.blk.lt (λe=>i (by injection e with e;exact e.symm))).trans h.blk,h.lds.off (λq2 s ds d a=>?_),h.lead.off hk (tZ hs) ho,h.rsd.off hk (tZ hs) ho⟩;obtain⟨_,ds',h1,_⟩:=h.neB d;exact(hg.block q2 a.lt (λe=>by injection e with e;subst e;exact absurd (tv h1 hk) zf)).trans a
theorem yb.growRow {C:ze}{v':Value}{vs:List Value}(h:yb w g st rd A n cA B k cB x0 x1 x2 y0 y1 y2)(hr:wv (VZ g) w g 41 (.slice A n cA) st.S vs)(hg:w.grownBy w' (Value.slice A n cA).ownBlock)(ho:w'.ownsRow g 41 1 v' (n+1) (vs++[.slice C m d]))(hp:wB w' v')(hx:VZ g w C m d L)(hm:L.length=m):∃A' cA',v'=.slice A' (n+1) cA'/\yb (w'.setCell ⟨g,0,none⟩ v') g {st with S:=st.S++[L]} rd A' (n+1) cA' B k cB x0 x1 x2 y0 y1 y2:=by
 obtain⟨h1,h2,h3,h4⟩:=h.grownA hg;have hl:=hr.grow (vf g) hx hm ho (by rw [h.hn]) hg hp;have i:(st.S++[L]).length=n+1:=by rw [qB,h.hn];rfl
 obtain⟨A',cA',e,-⟩:=hl.shape i;subst e;refine⟨A',cA',rfl,?_⟩;have t:∀q,(Value.slice A' (n+1) cA').ownBlock=some q->q≠g:=λq hq=>by
  rcases ho.2 with⟨h5,_⟩|⟨g',cap,cur,e1,e2,e3,_⟩
  ·rw [h5] at hq;cases hq
  ·rw [e1] at hq;simp [Value.ownBlock] at hq;subst hq;intro e;exact absurd (tv e3 (e▸h1)) zf
 have o:∀q,(Value.slice B k cB).ownBlock=some q->q≠g:=λq hq=>(h.neB hq).1;have a:=h.nok;have j:zZ g w' (w'.setCell ⟨g,0,none⟩ (.slice A' (n+1) cA')):=zZ.of_far ((zT.refl g w').set_ 0 _);exact {
  blk:=h1.set_ 0 _
  hn:=i
  hk:=h.hk
  rows:=⟨_,hl.off (λq s cs hq hk=>zh.far (p:=⟨g,0,none⟩) hk (t q hq) _) (λhx=>Yq hx h1 a j)⟩
  lds:=h2.off λq s cs hq hk=>zh.far (p:=⟨g,0,none⟩) hk (o q hq) _
  lead:=h3.off h1 a j
  rsd:=h4.off h1 a j}
theorem yb.newRd {r:Rat}{z0 z1 z2:Value}(h:yb w g st rd A n cA B k cB x0 x1 x2 y0 y1 y2)(hp:RV w r z0 z1 z2):yb (((w.setCell ⟨g,5,none⟩ z0).setCell ⟨g,6,none⟩ z1).setCell ⟨g,7,none⟩ z2) g st r A n cA B k cB x0 x1 x2 z0 z1 z2:=
 h.store ((((zT.refl g w).set_ 5 z0).set_ 6 z1).set_ 7 z2) (((h.blk.set_ 5 z0).set_ 6 z1).set_ 7 z2) h.lead hp λq s cs hq hk=>zh.far (p:=⟨g,7,none⟩) (zh.far (p:=⟨g,6,none⟩) (zh.far (p:=⟨g,5,none⟩) hk hq z0) hq z1) hq z2
theorem yb.new {b1 b2:Bool}{A1 A2 E1 E2:ze}{n1 c1 k1 f1 n2 c2 k2 f2:Nat}(w:World)(h1:zo w 1 b1 A1 n1 c1 E1 k1 f1)(h2:zo w 1 b2 A2 n2 c2 E2 k2 f2):yb (w.alloc (.cells #[.slice none 0 0,.slice none 0 0,.bool b1,.slice A1 n1 c1,.slice E1 k1 f1,.bool b2,.slice A2 n2 c2,.slice E2 k2 f2] 106)) w.heap.size ⟨[],[],1⟩ 1 none 0 0 none 0 0 (.bool b1) (.slice A1 n1 c1) (.slice E1 k1 f1) (.bool b2) (.slice A2 n2 c2) (.slice E2 k2 f2):=by
 obtain⟨hb,hk,-⟩:=zA w 106 #[.slice none 0 0,.slice none 0 0,.bool b1,.slice A1 n1 c1,.slice E1 k1 f1,.bool b2,.slice A2 n2 c2,.slice E2 k2 f2];exact{blk:=hk,hn:=rfl,hk:=rfl,rows:=⟨[],wv.nil _ _ _⟩,lds:=x6.nil _ _,lead:=RV.of (h1.below hb),rsd:=RV.of (h2.below hb)}
def xp (M:List (List Rat)):List (List Rat):=M.map λrow=>zL (zG row) row
def x5 (M:List (List Rat)):Rat:=M.foldl (λr row=>r*zG row) 1
theorem Wy (h:i<M.length):xp (M.take (i+1))=xp (M.take i)++[zL (zG (M.getD i [])) (M.getD i [])]:=by
 unfold xp;rw [QG h,yO,qQ,qY h];rfl
theorem cE (h:i<M.length):x5 (M.take (i+1))=x5 (M.take i)*zG (M.getD i []):=by
 unfold x5;rw [QG h,yH,qQ,qY h];rfl
theorem Zr (h:zM M n m):zM (xp M) n m:=⟨by unfold xp;rw [QH];exact h.rows,λL hL=>by
 unfold xp at hL;obtain⟨row,hr,rfl⟩:=List.mem_map.1 hL;exact tV (h.cols row hr)⟩
theorem bD (h:zM M n m){i:Nat}(hi:i<n)(j:Nat):zl (xp M) i j=zG (M.getD i [])*zl M i j:=by
 have hl:=h.rows;unfold zl xp;rw [qQ (l:=List.map _ _),qW,ws (d:=[]) za];exact sU j
structure yy (K:Nat)(M:List (List Rat)):Prop where
 q:∀row ∈ M,LI K (zG row)
 x:∀row ∈ M,∀x ∈ row,LI K (zG row*x)
theorem yy.at_ {n:Nat}(h:yy K M)(hd:zM M n m):∀i,i<n->∀j,j<m->LI K (zl (xp M) i j):=λi hi j hj=>by
 rw [bD hd hi];have hl:=hd.rows;have hr:=hd.row hi;have h1:M.getD i [] ∈ M:=QX (ws za);refine h.x _ h1 _ ?_;unfold zl;exact QX (ws (d:=0) za)
theorem jI {K:Nat}{M:List (List Rat)}(h:yy K M):∀i,i<=M.length->LI (1+i*K) (x5 (M.take i))
 |0,_=>by rw [Nat.zero_mul];exact LI.one
 |i+1,hi=>by
   rw [cE za];exact((jI h i za).mul (h.q _ (QX (ws za)))).up (by rw [Nat.succ_mul];omega)
end
def yp (m:Nat)(MM:List (List Rat)):wL:=oX m (xp MM)
def uY (m:Nat)(MM:List (List Rat)):List (List Rat):=tA (yp m MM).p⁻¹ (yp m MM).S
def sJ (ld:List Nat):List Int:=ld.map λl:Nat=>(l:Int)
theorem x6.ints {a:Nat}{B:ze}{k:Nat}{ld:List Nat}(h:x6 w a (.slice B k c) ld)(hb:∀l ∈ ld,l<128):tt w B k (sJ ld):=by
 obtain⟨B',c',e,-,-,-,h1⟩:=h.shape;injection e with e1 e2 e3;subst e1 e2;refine⟨by unfold sJ;rw [QH],λi hi=>?_,λi hi=>?_⟩
 ·unfold sJ;rw [qQ,qW,qY hi];have:=hb _ (xU hi);show -9223372036854775808<=((ld[i]:Nat):Int)/\((ld[i]:Nat):Int)<=9223372036854775807;omega
 ·obtain⟨ad,e,hc⟩:=h1 i hi;refine⟨ad,e,?_⟩;rw [hc];unfold sJ;rw [qQ,qQ,qW,qY hi];rfl
theorem tt.keep {w':World}(h:tt w A n zs)(hb:Below w.heap.size w w'):tt w' A n zs:=
 ⟨h.len,h.ints,λi hi=>by obtain⟨ad,e,hc⟩:=h.num i hi;exact⟨ad,e,zw hb hc⟩⟩
theorem tt.off {w':World}{g:Nat}{t:TypeId}{cs:Array Value}(h:tt w A n zs)(hk:zh w g t cs)(a:vY .i64 cs)(ho:zZ g w w'):tt w' A n zs:=
 ⟨h.len,h.ints,λi hi=>by
  obtain⟨ad,e,hc⟩:=h.num i hi;refine⟨ad,e,(ho.2 _ (QM w _ hc) λhg=>?_).trans hc⟩;generalize ad.add i=q at hc hg;obtain⟨bk,off,pr⟩:=q;simp only at hg;subst hg;unfold zh at hk;cases pr with
  |none=>
    rw [show w.cell? ⟨bk,off,none⟩=cs[off]? from cell_of_row w bk off _ t (0,0) hk,<-QS] at hc;exact a _ (QX hc) _ rfl
  |some q=>simp [World.cell?,hk] at hc⟩
def Z1 (w:World)(n m:Nat)(M:List (List Rat))(ld:List Nat)(eo:Ending)(w':World):Prop:=∃(A:ze) (c:Nat) (B:ze) (k cB:Nat),eo=.returned (.tuple #[.agg #[.slice A n c,.int .i64 (m:Int)],.slice B k cB])/\k=ld.length/\xm w' A n c m M/\tt w' B k (sJ ld)/\k<=cB/\cB<=9223372036854775807/\Below w.heap.size w w'
section
variable {w:World}{A:ze}{n c m K K0:Nat}{MM:List (List Rat)}
theorem km (h:zM MM n m):wQ n m m (zl (xp MM)) (yp m MM):=aA (Zr h) (qX _)
theorem kf {e:wL}(h:wQ n m c a0 e):∀l ∈ e.ld,l<c:=λl hl=>by
 obtain⟨_,_,_,hi⟩:=h;obtain⟨i,a,rfl⟩:=jS hl;exact hi.lt i a
theorem jo {e:wL}(h:wQ n m c a0 e):e.ld.length<=n:=by
 obtain⟨_,_,_,hi⟩:=h;exact hi.len
theorem RC (h:zM M n m)(r:Rat):zM (tA r M) n m:=⟨by unfold tA;rw [QH];exact h.rows,λL hL=>by
 unfold tA at hL;obtain⟨row,hr,rfl⟩:=List.mem_map.1 hL;exact tV (h.cols row hr)⟩
theorem PV {L:Nat}{r:Rat}(hr:zn L r)(h:zW K M):zW (L+K) (tA r M):=λR hR=>by
 unfold tA at hR;obtain⟨row,hq,rfl⟩:=List.mem_map.1 hR;exact zD.scale hr (h row hq)
theorem aH (h:zM MM n m)(hn:n<=64)(hW:yy K MM):zW ((67+65*K)+(67+65*K)) (uY m MM)/\zn (67+65*K) (yp m MM).p/\(yp m MM).p≠0/\zW (67+65*K) (yp m MM).S:=by
 have a:=km h;have ha:=hW.at_ h;obtain⟨h1,h2⟩:=wQ.psz a.inv hn ha;have h3:=wQ.msz a.dims a.inv hn ha;exact⟨PV h1.inv h3,h1,h2,h3⟩
theorem PT (h:zM MM n m):zM (uY m MM) n m:=RC (km h).dims _
end
section
variable {w:World}
theorem PD:∀(args:Array Value) (w':World),Sem.run prog (callFunc 89 args) w'=.ok (.enter 89 args) w':=Go.Proofs.enters_of func89 yd rfl
theorem rT {V:ze}(hT:zu w)(hk:zh w gc 3 #[.int .i64 (c:Int)])(hv:zR w V m d L)(hc:c<m)(hz:zD K L)(hK:K<=67108864:=by omega):
  Calls prog 89 #[.slice V m d,.pointer (some ⟨gc,0,none⟩)] w (λe w'=>e=.returned (.bool (!decide (L.getD c 0=0)))/\Below w.heap.size w w'):=by
 have g0:=hk.c1;have HS:=zb (hz.at_ (k:=c) (by rw [hv.len];exact hc));obtain⟨ad,b1,B1,m1,d1,E1,u1,v1,rfl,-,h0,h1,h2,hx⟩:=hv.get (qZ _ _) hc;have i1:(0:Int)<=(c:Int):=za;have i2:(c:Int)<(m:Int):=za;have i3:c<m:=hc;generalize L.getD c 0=x at*;obtain⟨t,ht⟩:∃t,decide (x=0)=t:=⟨_,rfl⟩;rw [ht];have a:=zb (dG ht hT hx HS.o hK);clear hk hv hz hx hc hT ht;go_enter func89,ntmps89;go_wp2_with fail;clear h0 h1 h2 g0;refine a.o.mono ?_;rintro eo w1 ⟨rfl,hb⟩;have HB:=zb hb;clear hb a;go_wp2;go_ret;exact⟨rfl,HB.o⟩
theorem Wp {q:Nat}(hT:zu w)(h:yx (yg zo) w Q n M)(hk:zh w gc 3 #[.int .i64 (c:Int)])(hc:c<m)(hd:∀L ∈ M,L.length=m)(hz:zW K M)(hn:n<=1048576)(hK:K<=67108864:=by omega):
  Calls prog 88 #[.slice Q n q,.func (.func 89) #[] #[.pointer (some ⟨gc,0,none⟩)]] w (λe w'=>e=.returned (.int .i64 (uj c M))/\Below w.heap.size w w'):=by
 have hl:=h.len;have HR:=zb h;have HT:=zk w (λw' hb=>hT.on hb);have HK:=zk w (λw' hb=>zg hb hk);have HD:zd (∀k,k<n->(M.getD k []).length=m):=λk hk=>hd _ (QX (ws za));have HZ:zd (∀k,k<n->zD K (M.getD k [])):=λk hk=>hz.row za;have HI:zd (∀k,k<n->(∀j,j<k->(M.getD j []).getD c 0=0)->(M.getD k []).getD c 0≠0->uj c M=(k:Int)):=λk hk=>Tj za;have HN:zd ((∀j,j<n->(M.getD j []).getD c 0=0)->uj c M= -1):=λh0=>V8 (by rw [hl];exact h0);have hEn:=PD;have hB:=qZ w.heap.size w;have i0:(0:Int)<=(n:Int):=za;have HC:=zb hc;obtain⟨zi,y⟩:∃zi,uj c M=zi:=⟨_,rfl⟩;rw [y] at HI HN⊢;clear h hk hl hd hz hT hc y;go_enter func88,ntmps88;go_wp2_with fail
 go_loopg [8] (n+1) (λg ix wr=>∃(k:Nat),k<=n/\n<g+k/\ix=.int .i64 k/\zd (∀j,j<k->(M.getD j []).getD c 0=0)/\Below w.heap.size w wr)
 case atStart=>exact⟨0,qM _,za,rfl,λj hj=>(by cases hj),hB⟩
 case round=>
  clear hB;obtain⟨k,hkn,hg,rfl,u,hB⟩:=hrel;by_cases hlt:k<n
  ·have C:decide ((k:Int)<(n:Int))=true:=decide_eq_true za;have i1:(0:Int)<=(k:Int):=za;have i2:(k:Int)<(n:Int):=za;obtain⟨ad,B,d,rfl,-,v,hv⟩:=HR.o.get (xe z6) hB hlt (HD.o k hlt);have A:=zb (HZ.o k hlt);have s:=zb (HI.o k hlt u.o);have HB:=zb hB;have t:zd ((M.getD k []).getD c 0=0->∀j,j<k+1->(M.getD j []).getD c 0=0):=λe j hj=>by
    rcases xG j k with a|a
    ·exact u.o j a
    ·rw [show j=k by omega];exact e
   have i:=zb (rT (HT.o _ hB) (HK.o _ hB) hv HC.o A.o hK);clear hB hv;by_cases h0:(M.getD k []).getD c 0=0
   ·have z:=zb (t.o h0);have i:=i.o;rw [h0,show(!decide ((0:Rat)=0))=false from rfl] at i;have i:=zb i;clear h0 t s;go_wp2_with fail;refine i.o.mono ?_;rintro eo w3 ⟨rfl,hb⟩;have o:=zb (zc HB.o hb);clear hb v;go_wp2;go_roundg (n - k)
    case measure=>omega
    case rel=>exact⟨k+1,za,za,by go_num,z.o,o.o⟩
   ·have HE:=zb (s.o h0);have i:=i.o;rw [decide_eq_false h0,show(!false)=true from rfl] at i;have i:=zb i;clear h0 t s;go_wp2_with fail;refine i.o.mono ?_;rintro eo w3 ⟨rfl,hb⟩;have o:=zb (zc HB.o hb);clear hb v;go_wp2;go_ret;exact⟨by rw [HE.o];rfl,o.o⟩
  ·have D:k=n:=za;subst D;have C:decide ((k:Int)<(k:Int))=false:=zF;have HE:=zb (HN.o u.o);have o:=zb hB;clear hB;go_wp2;go_ret;exact⟨by rw [HE.o];rfl,o.o⟩
end
