/- What this claim leans on. -/
import Derived.Test.YtdfdjfiognhbgaaGreatDoorDEAll
import Derived.Laws.Append
set_option linter.unusedVariables false
set_option linter.unusedSimpArgs false
namespace Go.Proofs.YtdfdjfiognhbgaaGreatDoor
open Go Go.RowKit Go.Proofs.Tryz
set_option maxHeartbeats 16000000
set_option maxRecDepth 100000
variable {ad:Addr}{cs:Array Value}{M:List (List Rat)}{zs:List Int}{ld:List Nat}{xs:List Rat}{K a c g k m n:Nat}{a0:Nat->Nat->Rat}{t:TypeId}{w:World}{A:ze}
theorem uf.pre {W:World}{R:so}(h:uf W A n c R)(hk:k<=n):uf W A k c R:=⟨qL hk h.fits,h.small,λr hr=>h.row r zb⟩
theorem PS {z:Nat}{A:ze}{w:World}(hz:z<=255)(hc:n<=c)(hc2:c<=1048576):
  Calls prog 7 #[.agg #[.int .u8 (z:Int),.slice A n c]] w (λe w'=>e=.returned (.agg #[.int .u8 ((z%5:Nat):Int),.slice A (min n 4) c])/\Below w.heap.size w w'):=by
 obtain⟨m,hm⟩:∃m,z%5=m:=⟨_,rfl⟩;have k:(z:Int)%5=(m:Int):=zb;have hzt:(z:Int).tmod 5=(m:Int):=by rw [xL zb];exact k
 rw [hm];obtain⟨g,a,i,-⟩:=zX w 24 24 #[.int .u8 (z:Int),.slice A n c] #[.int .u8 0,.slice none 0 0];obtain⟨p0,p1⟩:=a.c2;have sf0:=a.frozen 0;have k1:=a.set_ 0 (.int .u8 (m:Int));have k1:zh _ _ _ #[.int .u8 (m:Int),.slice A n c]:=k1;obtain⟨q0,q1⟩:=k1.c2;have sf1:=k1.frozen 1;have j1:=zh.far (p:=⟨w.heap.size,0,none⟩) i (by show w.heap.size+1≠w.heap.size;omega) (.int .u8 (m:Int));have j:=zz (p:=⟨w.heap.size,0,none⟩) (.int .u8 (m:Int)) (qY w.heap.size) g;by_cases hlt:4<n
 ·rw [show min n 4=4 by omega];have d1:decide ((n:Int)>4)=true:=decide_eq_true zb;have d2:decide ((4:Int)<(n:Int))=true:=decide_eq_true zb;have i1:(4:Int)<=(c:Int):=zb;have i2:(4:Int)<=(n:Int):=zb;have i3:4<=c:=zb;have k2:=k1.set_ 1 (.slice A 4 c);have k2:zh _ _ _ #[.int .u8 (m:Int),.slice A 4 c]:=k2;obtain⟨q2,q3⟩:=k2.c2;have j2:=zh.far (p:=⟨w.heap.size,1,none⟩) j1 (by show w.heap.size+1≠w.heap.size;omega) (.slice A 4 c);have o:=zz (p:=⟨w.heap.size,1,none⟩) (.slice A 4 c) (qY w.heap.size) j;obtain⟨s,u,t,y⟩:=wS j2 (.int .u8 (m:Int));obtain⟨r0,r1⟩:=(wR j2 (.int .u8 (m:Int)) (.slice A 4 c)).c2;have d:=za (zX w 24 24 #[.int .u8 (m:Int),.slice A 4 c] #[.int .u8 (m:Int),.slice A 4 c]).1;clear g a i k1 k2 j1 j2 j o hm k hz;go_enter func7,ntmps7;go_wp2;refine bodyPost_ret (v:=.agg #[.int .u8 (m:Int),.slice A 4 c]) (by simp [results,results7,go_sem,r0,r1]) rfl ?_;exact⟨rfl,d.o⟩
 ·rw [show min n 4=n by omega];have d1:decide ((n:Int)>4)=false:=decide_eq_false zb;have d2:decide ((4:Int)<(n:Int))=false:=decide_eq_false zb;obtain⟨s,u,t,y⟩:=wS j1 (.int .u8 (m:Int));obtain⟨r0,r1⟩:=(wR j1 (.int .u8 (m:Int)) (.slice A n c)).c2;have d:=za (zX w 24 24 #[.int .u8 (m:Int),.slice A n c] #[.int .u8 (m:Int),.slice A n c]).1;clear g a i k1 j1 j hm k hz;go_enter func7,ntmps7;go_wp2;refine bodyPost_ret (v:=.agg #[.int .u8 (m:Int),.slice A n c]) (by simp [results,results7,go_sem,r0,r1]) rfl ?_;exact⟨rfl,d.o⟩
section
variable {w:World}{A:ze}{n c m K:Nat}{MM:List (List Rat)}
theorem Y1 (hT:zu w)(h:yF w A n c m MM)(z:zV K MM)(hK:K+2<=67108864:=by omega):
  Calls prog 34 #[.agg #[.slice A n c,.int .i64 (m:Int)]] w (es w n MM):=by
 obtain⟨hn,hm⟩:=And.intro h.hn h.hm;have HM:=zj w (λw' hb=>h.keep hb);have HT:=zj w (λw' hb=>hT.on hb);have HZ:=za z;have HR:=λW=>za (oE A n c (m:Int) W);have D:zd (MM.length=n):=h.dims.rows;have J:zd (∀i,i<n->(MM.getD i []).length=m):=λi hi=>h.dims.row hi;have HG:zd (∀i,i<n->MM[i]?=some (MM.getD i [])):=λi hi=>vY (by have:=h.dims.rows;omega);obtain⟨Y,hY⟩:=bU n zb;have P:=λW=>(hY W).1;have j:=za (λW=>(hY W).2);obtain⟨E,s,bz⟩:=zw w 28 #[.slice A n c,.int .i64 (m:Int)];obtain⟨g0,g1⟩:=s.c2;have HB:=za E;have HK:=za s;clear h hY E s bz hT z;unfold es;have i0:(0:Int)<=(n:Int):=zb;go_enter func34,ntmps34;go_wp2_with fail;generalize w.alloc (.cells #[.slice A n c,.int .i64 (m:Int)] 28)=W1 at*;refine(HR _).o.mono ?_;rintro eo w1 ⟨rfl,hb⟩;have u:=zf hb HK.o;have F:=zc HB.o hb;clear hb g0 g1 HR HB HK;go_wp2_with fail;clear P;have a:=j.o w1;have t:=(zw w1 64 Y).1;have hK:=zf t u;have hB:=zc F t;have hlt1:=u.lt;rw [<-mR [] MM n] at a;generalize w1.alloc (.cells Y 64)=W2 at*;clear j t u F;generalize w1.heap.size=gp at*
 go_loopg [10] (n+1) (λg ix wr=>∃(k:Nat),k<=n/\n<g+k/\ix=.int .i64 k/\xj (zY zo) wr 64 gp n (uh [] MM n k)/\Below w.heap.size w wr/\zh wr w.heap.size 28 #[.slice A n c,.int .i64 (m:Int)])
 case atStart=>exact⟨0,qN _,zb,rfl,a,hB,hK⟩
 case round=>
  clear a hB hK;obtain⟨i,hkn,hg,rfl,a,hB,hK⟩:=hrel;by_cases hlt:i<n
  ·have N:decide ((i:Int)<(n:Int))=true:=decide_eq_true zb;have i1:(0:Int)<=(i:Int):=zb;have i2:(i:Int)<(n:Int):=zb;obtain⟨g0,g1⟩:=hK.c2;have o:=za a;have d:=za hB;have C:=za hK;have B:=za (HG.o i hlt);clear a hB hK;go_wp2_with fail;(with_reducible refine(UN (HT.o _ d.o) (HM.o _ d.o) HZ.o hlt).mono ?_);rintro eo w5 ⟨g5,rfl,hg5,G,hb⟩;clear g0 g1;have v:=o.o.below (zN zS) hb;have y:=xj.set_ (zN zS) v hlt (xw G) (J.o i hlt);rw [mT [] MM n i D.o hlt _ B.o] at y;obtain⟨q0,sc0,sf0⟩:=v.ready hlt;have M:=za y;have H:=za (zz (p:=⟨gp,i,none⟩) (.slice (some ⟨g5,0,none⟩) m m) (show w.heap.size<=gp by omega) (zc d.o hb));have I:=za (zh.far (p:=⟨gp,i,none⟩) (zf hb C.o) (by show w.heap.size≠gp;omega) (.slice (some ⟨g5,0,none⟩) m m));clear v y G hb o d C B;go_wp2;go_roundg (n - i)
   case measure=>omega
   case rel=>exact⟨i+1,zb,zb,by go_num,M.o,H.o,I.o⟩
  ·have O:i=n:=zb;subst O;have N:decide ((i:Int)<(i:Int))=false:=zE;have L:=za (mS [] MM i D.o▸a);have d:=za hB;clear a hB hK;go_wp2;go_ret;exact⟨gp,rfl,zb,L.o,d.o⟩
end
section
variable {w:World}{g:Nat}{st:wn}{rd:Rat}{A:ze}{n cA:Nat}{B:ze}{k cB:Nat}{x0 x1 x2 y0 y1 y2:Value}
def vX (r:Rat)(M:List (List Rat)):List (List Rat):=M.map (y6 r)
theorem Yq (hT:zu w)(hE:z6 w g st rd A n cA B k cB x0 x1 x2 y0 y1 y2)(hd:zM st.S n m)(z:zV K st.S)(zp:zm K st.p)(hp:st.p≠0)(hn:n<=64)(hm:m<=1073741824)(hK:K<=33554432:=by omega):
  Calls prog 43 #[.pointer (some ⟨g,0,none⟩)] w (es w n (vX st.p⁻¹ st.S)):=by
 obtain⟨b0,A0,n0,c0,E0,k0,f0,rfl,rfl,rfl,P⟩:=hE.lead;obtain⟨vs,j⟩:=hE.rows;obtain⟨A',c',M,-,-,hL,-⟩:=j.shape hE.hn;have HL:zd (y5 (VZ g) w A n st.S):=by injection M with q1 q2 q3;subst q1;exact hL
 have HP:=zj w (λw' hb=>P.below hb);have HC:=zj w (λw' hb=>(hE.below hb).cells);have HT:=zj w (λw' hb=>hT.on hb);have J:=za zp;have ab:=za hp;have D:zd ((vX st.p⁻¹ st.S).length=n):=by unfold vX;rw [xV];exact hd.rows
 have I:zd (∀i,i<n->(st.S.getD i []).length=m):=λi hi=>hd.row hi;have ag:zd (∀i,i<n->zK K (st.S.getD i [])):=λi hi=>z.row (by have:=hd.rows;omega);have HG:zd (∀i,i<n->(vX st.p⁻¹ st.S)[i]?=some (y6 st.p⁻¹ (st.S.getD i []))):=λi hi=>by
  unfold vX;rw [QQ,vY (d:=[]) (by have:=hd.rows;omega)];rfl
 obtain⟨ys,U⟩:∃ys,vX st.p⁻¹ st.S=ys:=⟨_,rfl⟩;rw [U] at D HG⊢;obtain⟨Y,hY⟩:=bU n zb;have aj:=λW=>(hY W).1;have v:=za (λW=>(hY W).2);obtain⟨p0,-,p2,p3,p4,-⟩:=HC.o _ (qZ _ _);have i0:(0:Int)<=(n:Int):=zb;unfold es;clear hT hE hd z zp hp P j M hL hY U;go_enter func43,ntmps43;go_wp2_with fail;clear p0 p2 p3 p4;(with_reducible refine(dE st.p b0 A0 n0 c0 E0 k0 f0 _ (HT.o _ (qZ _ _)) (HP.o _ (qZ _ _)) (J.o.fit (HP.o _ (qZ _ _)) zb) ab.o).mono ?_);rintro eo w5 ⟨b5,A5,n5,c5,E5,k5,f5,rfl,T,hb⟩;obtain⟨E,L,-⟩:=zw w5 41 #[.bool b5,.slice A5 n5 c5,.slice E5 k5 f5];have hI:=T.below E;have o:=zc hb E;have hs5:=hb.size;obtain⟨p0,-⟩:=HC.o _ o;obtain⟨q0,-⟩:=HC.o _ (zc o (zw (w5.alloc (.cells #[.bool b5,.slice A5 n5 c5,.slice E5 k5 f5] 41)) 64 Y).1);clear hb T E;go_wp2_with fail;clear aj p0 q0;have e1:(w5.alloc (.cells #[.bool b5,.slice A5 n5 c5,.slice E5 k5 f5] 41)).heap.size=w5.heap.size+1:=zE;generalize w5.alloc (.cells #[.bool b5,.slice A5 n5 c5,.slice E5 k5 f5] 41)=W6 at*;have a:=v.o W6;have s:=(zw W6 64 Y).1;have hK:=zf s L;have hB:=zc o s;have hI:=hI.below s;rw [e1] at a;obtain⟨gp,N⟩:∃q,w5.heap.size+1=q:=⟨_,rfl⟩;have hltp:w5.heap.size<gp:=zb;rw [N] at a⊢;rw [<-mR [] ys n] at a;generalize W6.alloc (.cells Y 64)=W7 at*;clear v s L o e1 N;generalize w5.heap.size=g5 at*
 go_loopg [27] (n+1) (λgg ix wr=>∃(i:Nat),i<=n/\n<gg+i/\ix=.int .i64 i/\xj (zY zo) wr 64 gp n (uh [] ys n i)/\Below w.heap.size w wr/\zh wr g5 41 #[.bool b5,.slice A5 n5 c5,.slice E5 k5 f5]/\zo wr st.p⁻¹ b5 A5 n5 c5 E5 k5 f5)
 case atStart=>exact⟨0,qN _,zb,rfl,a,hB,hK,hI⟩
 case round=>
  clear a hB hK hI;obtain⟨i,hkn,hg,rfl,a,hB,hK,hI⟩:=hrel;by_cases hlt:i<n
  ·have ai:decide ((i:Int)<(n:Int))=true:=decide_eq_true zb;have i1:(0:Int)<=(i:Int):=zb;have i2:(i:Int)<(n:Int):=zb;obtain⟨ad,Bi,di,rfl,-,ah,R⟩:=HL.o.get (wW g) hB hlt (I.o i hlt);obtain⟨p0,p1,p2⟩:=hK.c3;have HV:=za R.1;have y:=za a;have c:=za hB;have H:=za hK;have C:=za hI;have G:=za (HG.o i hlt);have af:=za (ag.o i hlt);have aa:=za (I.o i hlt);generalize st.S.getD i []=row at*;clear a hB hK hI R;go_wp2_with fail;(with_reducible refine(tG (HT.o _ c.o) C.o HV.o J.o.inv af.o).mono ?_);rintro eo w8 ⟨g8,rfl,hg8,O,hb⟩;clear p0 p1 p2 ah;have u:=y.o.below (zN zS) hb;have F:=xj.set_ (zN zS) u hlt (xw O) (by rw [ti aa.o]);rw [mT [] ys n i D.o hlt _ G.o] at F;obtain⟨q0,sc0,sf0⟩:=u.ready hlt;obtain⟨cs9,t,Q,-⟩:=u.blk;have ae:=za F;have V:=za (zz (p:=⟨gp,i,none⟩) (.slice (some ⟨g8,0,none⟩) m m) (show w.heap.size<=gp by omega) (zc c.o hb));have Z:=za (zh.far (p:=⟨gp,i,none⟩) (zf hb H.o) (by show g5≠gp;omega) (.slice (some ⟨g8,0,none⟩) m m));have X:=za (oG t (kt Q) (ya.of_far ((z4.refl gp _).set_ i (.slice (some ⟨g8,0,none⟩) m m))) (C.o.below hb));clear u F O hb y c H C G t Q;go_wp2;go_roundg (n - i)
   case measure=>omega
   case rel=>exact⟨i+1,zb,zb,by go_num,ae.o,V.o,Z.o,X.o⟩
  ·have t:i=n:=zb;subst t;have ai:decide ((i:Int)<(i:Int))=false:=zE;have ac:=za (mS [] ys i D.o▸a);have c:=za hB;clear a hB hK hI;go_wp2;go_ret;exact⟨gp,rfl,zb,ac.o,c.o⟩
end
theorem zU.vals3 (h:zU w (some ad) n c xs):∃vs:List Value,vs.length=n*3/\(∀j u,vs[j]?=some u->w.cell? (ad.add j)=some u)/\∀j,j<n*3->∃u,vs[j]?=some u:=by
 have a:∀i,i<n*3->∃u,w.cell? (ad.add i)=some u:=λi hi=>by
  have hq:i / 3<xs.length:=by rw [h.len];omega
  obtain⟨ad',b,B,m,d,F,u,v,e,_,h1,h2,h3,_⟩:=h.num (i / 3) _ (qX hq);injection e with e;subst e;rcases (show i=i / 3*3\/i=i / 3*3+1\/i=i / 3*3+2 by omega) with e|e|e
  ·rw [e];exact⟨_,h1⟩
  ·rw [e];exact⟨_,h2⟩
  ·rw [e];exact⟨_,h3⟩
 refine⟨(List.range (n*3)).map λi=>(w.cell? (ad.add i)).getD undef,zE,λj u hu=>?_,λj hj=>?_⟩
 ·have hj:j<n*3:=by
   have:=(List.getElem?_eq_some_iff.1 hu).1;simpa using this
  obtain⟨u',h1⟩:=a j hj;rw [QQ,xW hj] at hu;injection hu with hu;dsimp only at hu;rw [h1] at hu⊢;rw [<-hu];rfl
 ·exact⟨_,by rw [QQ,xW hj];rfl⟩
theorem SA {w w1:World}(hk:zh w1 g t cs)(hl:xs.length=n)(hf:n<=c)(hm:c<=9223372036854775807)
  (h:∀i x,xs[i]?=some x->∃(b:Bool) (B:ze) (m d:Nat) (F:ze) (u v:Nat),cs[i*3]?=some (.bool b)/\cs[i*3+1]?=some (.slice B m d)/\cs[i*3+2]?=some (.slice F u v)/\zo w1 x b B m d F u v):zU w1 (some ⟨g,0,none⟩) n c xs:=
 ⟨hl,hf,hm,λi x hi=>by
  obtain⟨b,B,m,d,F,u,v,h1,h2,h3,h4⟩:=h i x hi;exact⟨_,b,B,m,d,F,u,v,rfl,hk.lt,by rw [vz];exact(hk.cell _).trans h1,by rw [vz];exact(hk.cell _).trans h2,by rw [vz];exact(hk.cell _).trans h3,h4⟩⟩
theorem Tv {p q:Addr}{d:Nat}{ys:List Rat}(h:zU w (some p) m m xs)(hy:zU w (some q) k d ys)(hk:0<k)(hmk:m+k<=1048576)(t ty:TypeId)(ht:prog.underlying t=some (.slice 41)):
  ∃ c' cs,(Builtin.append_ #[t,t] ty #[.slice (some p) m m,.slice (some q) k d]).run prog w = .ok (.slice (some ⟨w.heap.size,0,none⟩) (m + k) c') (w.drew.alloc (.cells cs 41)) ∧
   zU (w.drew.alloc (.cells cs 41)) (some ⟨w.heap.size,0,none⟩) (m+k) c' (xs++ys)/\Below w.heap.size w (w.drew.alloc (.cells cs 41)):=by
 obtain⟨i0,y,z,n,A⟩:=info_parts ZL;obtain⟨os,o1,o2,o3⟩:=h.vals3;obtain⟨ns,n1,n2,n3⟩:=hy.vals3;have hr:=run_append_grow (P:=prog) w t ty 41 i0 (.agg #[.bool false,.slice none 0 0,.slice none 0 0]) ht y z p m m os (by rw [n];exact o1) o2 q k d ns (by rw [n];exact n1) n2 zb zb (growslice_fits zb (by rw [A];omega));have s:=grownCap_ge w (m+k) m 41;have o:=grownCap_le_maxLen w (m+k) m 41 (by unfold maxLen;omega);refine⟨_,_,hr,?_,?_⟩
 ·generalize Builtin.zeroCells (Value.agg #[.bool false,.slice none 0 0,.slice none 0 0]).cells (grownCap w (m+k) m 41 - (m+k))=zs at*;obtain⟨t1,t2,-⟩:=zw w.drew 41 (os.toArray++ns.toArray++zs);have hB:Below w.heap.size w (w.drew.alloc (.cells (os.toArray++ns.toArray++zs) 41)):=zc (qZ w.heap.size w).drew t1;have at_:∀j u,j<m*3->w.cell? (p.add j)=some u->(os.toArray++ns.toArray++zs)[j]?=some u:=λj u hj hu=>by
   obtain⟨u',a⟩:=o3 j hj;have:=o2 j u' a;rw [hu] at this;injection this with this;subst this;rw [Array.getElem?_append_left (by simp;omega),Array.getElem?_append_left (by simp;omega),qT];exact a
  have c:∀j u,j<k*3->w.cell? (q.add j)=some u->(os.toArray++ns.toArray++zs)[m*3+j]?=some u:=λj u hj hu=>by
   obtain⟨u',a⟩:=n3 j hj;have:=n2 j u' a;rw [hu] at this;injection this with this;subst this;rw [Array.getElem?_append_left (by simp;omega),Array.getElem?_append_right (by simp;omega),qT];rw [show m*3+j - os.toArray.size=j by simp;omega];exact a
  refine SA (w:=w) t2 (by rw [QV,h.len,hy.len]) s (by unfold maxLen at o;omega) λi x hi=>?_;by_cases hlt:i<xs.length
  ·rw [QR hlt] at hi;obtain⟨ad,b,B,m',d',F,u,v,e,_,h1,h2,h3,h4⟩:=h.num i x hi;injection e with e;subst e;rw [h.len] at hlt;exact⟨b,B,m',d',F,u,v,at_ _ _ zb h1,at_ _ _ zb h2,at_ _ _ zb h3,zS.below h4 hB⟩
  ·rw [QK zb] at hi;have g:=(List.getElem?_eq_some_iff.1 hi).1;obtain⟨ad,b,B,m',d',F,u,v,e,_,h1,h2,h3,h4⟩:=hy.num _ x hi;injection e with e;subst e;rw [h.len] at hlt hi h1 h2 h3;rw [hy.len,h.len] at g;refine⟨b,B,m',d',F,u,v,?_,?_,?_,zS.below h4 hB⟩
   ·rw [show i*3=m*3+(i - m)*3 by omega];exact c _ _ zb h1
   ·rw [show i*3+1=m*3+((i - m)*3+1) by omega];exact c _ _ zb h2
   ·rw [show i*3+2=m*3+((i - m)*3+2) by omega];exact c _ _ zb h3
 ·exact zc (qZ w.heap.size w).drew (zw w.drew 41 _).1
def tc (n:Nat):RP Rat:=λw B m d L=>zU w B m d L/\(m=n->d=n)
theorem iF (n:Nat):ur (tc n) where
 len h:=h.1.len
 below h hb:=⟨h.1.keep hb,h.2⟩
 offS h hk hs ho:=⟨Zh zS h.1 hk hs ho,h.2⟩
 nil w:=⟨zY.nil w,λe=>e⟩
theorem xj.wider {α:Type}{R R':RP α}{Ls:List (List α)}(h:xj R w t g n Ls)(hR:∀{B:ze} {m d:Nat} {L:List α},R w B m d L->R' w B m d L):xj R' w t g n Ls:=
 ⟨h.len,h.blk,λi L hi=>by obtain⟨B,d,h1,h2⟩:=h.num i L hi;exact⟨B,d,h1,hR h2⟩⟩
theorem zU.rest (h:zU w (some ad) n c xs)(hk:k<=n):zU w (some (ad.add (k*3))) (n - k) (c - k) (xs.drop k):=
 ⟨by rw [XX,h.len],by have:=h.fits;omega,by have:=h.most;omega,λi x hi=>by
  rw [YP] at hi;obtain⟨ad',b,B,m,d,F,u,v,e,h1,h2,h3,h4,h5⟩:=h.num _ x hi;injection e with e;subst e;have ea:∀j,(ad.add (k*3)).add j=ad.add (k*3+j):=λj=>gU _ _ _;refine⟨_,b,B,m,d,F,u,v,rfl,by rw [y8];exact h1,?_,?_,?_,h5⟩
  ·rw [ea,show k*3+i*3=(k+i)*3 by omega];exact h2
  ·rw [ea,show k*3+(i*3+1)=(k+i)*3+1 by omega];exact h3
  ·rw [ea,show k*3+(i*3+2)=(k+i)*3+2 by omega];exact h4⟩
theorem Tw {c:Array Oper}{rest:List Oper}{o:Oper}{a:Act}{Q:Exit->Act->World->Prop}(g:o.guard=none)(s x:Operand)(t:TypeId)
  (ho:o.op=.call {callee:=.builtin .append,args:=#[s,x],argTypes:=#[t,t]}) (ht:prog.underlying t=some (.slice 41))
  (p q:Addr) (m k d:Nat) (xs ys:List Rat) (hs:a.eval s=.slice (some p) m m) (hx:a.eval x=.slice (some q) k d) (h:zU w (some p) m m xs) (hy:zU w (some q) k d ys) (hk:0<k) (i:m+k<=1048576)
  (hn:∀c' w',zU w' (some ⟨w.heap.size,0,none⟩) (m+k) c' (xs++ys)->Below w.heap.size w w'->wpList prog c Q rest (a.put o.dst (.slice (some ⟨w.heap.size,0,none⟩) (m+k) c')) w'):
  wpList prog c Q (o::rest) a w:=by
 refine wpList_plain g λK hK=>?_;obtain⟨c',cs,hr,h2,h3⟩:=Tv h hy hk i t o.type ht;unfold Oper.wp execOp;simp only [ho,resolve,invoke,builtin,Sem.run_bind,Sem.run_pure,Result.andThen_ok,yI,yX,List.map_nil,hs,hx,hr];exact hK _ _ (hn c' _ h2 h3)
theorem Rh {R:RP Rat}(hR:ur R)(n:Nat)(hn:n<=1099511627776):∃Z:Array Value,∀W:World,(Instr.makeSlice 26 (.int .i64 (n:Int)) (.int .i64 (n:Int))).run prog W=.ok (.slice (some ⟨W.heap.size,0,none⟩) n n) (W.alloc (.cells Z 64))/\xj R (W.alloc (.cells Z 64)) 64 W.heap.size n (List.replicate n []):=by
 obtain⟨i0,a,c,d,g⟩:=info_parts jK;refine⟨madeCells kz n,λW=>⟨?_,xj.made hR W _ n⟩⟩;have h:=tH (P:=prog) _ _ i0 _ underlying26 a c .i64 .i64 n n (qY _) (by rw [g];omega) zb W;rw [d,xC] at h;exact h
def xd (m:Nat)(MM:List (List Rat)):wn:=tO m (x4 MM)
def uk (m:Nat)(MM:List (List Rat)):List (List Rat):=vX (xd m MM).p⁻¹ (xd m MM).S
def nL (ld:List Nat):List Int:=ld.map λl:Nat=>(l:Int)
theorem uB.ints {B:ze}(h:uB w a (.slice B k c) ld)(hb:∀l ∈ ld,l<128):tK w B k (nL ld):=by
 obtain⟨B',c',e,-,-,-,h1⟩:=h.shape;injection e with e1 e2 e3;subst e1 e2;refine⟨by unfold nL;rw [xV],λi hi=>?_,λi hi=>?_⟩
 ·unfold nL;rw [qQ,QQ,qX hi];have:=hb _ (xS hi);show -9223372036854775808<=((ld[i]:Nat):Int)/\((ld[i]:Nat):Int)<=9223372036854775807;omega
 ·obtain⟨ad,e,hc⟩:=h1 i hi;refine⟨ad,e,?_⟩;rw [hc];unfold nL;rw [qQ,qQ,QQ,qX hi];rfl
theorem tK.keep {w':World}(h:tK w A n zs)(hb:Below w.heap.size w w'):tK w' A n zs:=
 ⟨h.len,h.ints,λi hi=>by obtain⟨ad,e,hc⟩:=h.num i hi;exact⟨ad,e,zt hb hc⟩⟩
theorem tK.off {w':World}(h:tK w A n zs)(hk:zh w g t cs)(a:tv .i64 cs)(ho:ya g w w'):tK w' A n zs:=
 ⟨h.len,h.ints,λi hi=>by
  obtain⟨ad,e,hc⟩:=h.num i hi;refine⟨ad,e,(ho.2 _ (xQ w _ hc) λhg=>?_).trans hc⟩;generalize ad.add i=q at hc hg;obtain⟨bk,off,pr⟩:=q;simp only at hg;subst hg;unfold zh at hk;cases pr with
  |none=>
    rw [show w.cell? ⟨bk,off,none⟩=cs[off]? from cell_of_row w bk off _ t (0,0) hk,<-QM] at hc;exact a _ (QJ hc) _ rfl
  |some q=>simp [World.cell?,hk] at hc⟩
def aU (w:World)(n m:Nat)(M:List (List Rat))(ld:List Nat)(eo:Ending)(w':World):Prop:=∃(A:ze) (c:Nat) (B:ze) (k cB:Nat),eo=.returned (.tuple #[.agg #[.slice A n c,.int .i64 (m:Int)],.slice B k cB])/\k=ld.length/\yF w' A n c m M/\tK w' B k (nL ld)/\k<=cB/\cB<=9223372036854775807/\Below w.heap.size w w'
section
variable {w:World}{A:ze}{n c m K K0:Nat}{MM:List (List Rat)}
theorem lQ (h:zM MM n m):wh n m m (zv (x4 MM)) (xd m MM):=eW (cU h) (qY _)
theorem qk {e:wn}(h:wh n m c a0 e):∀l ∈ e.ld,l<c:=λl hl=>by
 obtain⟨_,_,_,hi⟩:=h;obtain⟨i,a,rfl⟩:=aN hl;exact hi.lt i a
theorem qj {e:wn}(h:wh n m c a0 e):e.ld.length<=n:=by
 obtain⟨_,_,_,hi⟩:=h;exact hi.len
theorem fW (h:zM M n m)(r:Rat):zM (vX r M) n m:=⟨by unfold vX;rw [xV];exact h.rows,λL hL=>by
 unfold vX at hL;obtain⟨row,hr,rfl⟩:=List.mem_map.1 hL;exact ti (h.cols row hr)⟩
theorem WC {L:Nat}{r:Rat}(hr:zm L r)(h:zV K M):zV (L+K) (vX r M):=λR hR=>by
 unfold vX at hR;obtain⟨row,hq,rfl⟩:=List.mem_map.1 hR;exact zK.scale hr (h row hq)
theorem dG (h:zM MM n m)(hn:n<=64)(hW:wN K MM):zV ((67+65*K)+(67+65*K)) (uk m MM)/\zm (67+65*K) (xd m MM).p/\(xd m MM).p≠0/\zV (67+65*K) (xd m MM).S:=by
 have a:=lQ h;have ha:=hW.at_ h;obtain⟨h1,h2⟩:=wh.psz a.inv hn ha;have h3:=wh.msz a.dims a.inv hn ha;exact⟨WC h1.inv h3,h1,h2,h3⟩
theorem Pq (h:zM MM n m):zM (uk m MM) n m:=fW (lQ h).dims _
end
section
variable {w:World}{A:ze}{n c m K K0:Nat}{MM:List (List Rat)}
theorem uB.slot {g:Nat}{v:Value}(h:uB w a v ld)(hk:zh w g t cs)(ht:t≠3)(i:Nat)(x:Value):uB (w.setCell ⟨g,i,none⟩ x) a v ld:=
 h.off λq s ds hq c=>zh.far (p:=⟨g,i,none⟩) c (λe=>by
  have e:q=g:=e;subst e;rcases h.own.2 with⟨h5,_⟩|⟨g',cap,cur,e1,e2,e3,_⟩
  ·rw [h5] at hq;cases hq
  ·rw [e1] at hq;simp [Value.ownBlock] at hq;subst hq;exact ht (tp hk e3)) _
theorem aZ (hT:zu w)(h:yF w A n c m MM)(z:zV K0 MM)(hW:wN K MM)(hK:260*K+269<=33554432:=by omega)(ah:K+K0<=33554432:=by omega)(ai:0<K:=by omega):
  Calls prog 23 #[.agg #[.slice A n c,.int .i64 (m:Int)]] w (aU w n m (uk m MM) (xd m MM).ld):=by
 obtain⟨hn,hm⟩:=And.intro h.hn h.hm;have HM:=zj w (λw' hb=>h.keep hb);have HT:=zj w (λw' hb=>hT.on hb);have HZ:=za z;have HW:=za hW;have HD:=za h.dims;have F:=lQ h.dims;obtain⟨s1,s2,s3,s4⟩:=dG h.dims hn hW;have Q:=za s1;have R:=za s2;have T:=za s3;have U:=za s4;have I:=za (Pq h.dims);have J:=za F.dims;have N:zd (∀l ∈(xd m MM).ld,l<128):=λl hl=>by have:=qk F l hl;omega
 obtain⟨k,o,V,-⟩:=zX w 28 28 #[.slice A n c,.int .i64 (m:Int)] #[.slice none 0 0,.int .i64 0];obtain⟨p0,p1⟩:=o.c2;have HB:=za k;have i:=za o;have a:=za V;have B:zd (uk m MM=vX (xd m MM).p⁻¹ (xd m MM).S):=rfl;have G:tO m (x4 MM)=xd m MM:=rfl;obtain⟨st,y⟩:∃st,xd m MM=st:=⟨_,rfl⟩;obtain⟨RM,Y⟩:∃RM,uk m MM=RM:=⟨_,rfl⟩;rw [y] at G R T U J N B⊢;rw [Y] at B Q I⊢;have ag:=za G;unfold aU;clear h hT z hW k o V G y F s1 s2 s3 s4 Y;go_enter func23,ntmps23;go_wp2_with fail;generalize (w.alloc (.cells #[.slice A n c,.int .i64 (m:Int)] 28)).alloc (.cells #[.slice none 0 0,.int .i64 0] 28)=W1 at*;have j:=(qZ W1.heap.size W1).drew;refine rg (zl p0 (zl p1 zJ)) (λhHeld=>?_);have HB:=za (zc HB.o j);have i:=za (zf j i.o);have a:=za (zf j a.o);clear p0 p1 j;generalize W1.drew=D at*;refine tk 0 ?_;refine tk 2 ?_;refine rc 1 (λKK g=>?_);go_simp;refine(uP A n c (m:Int) _).mono ?_;rintro eo w2 ⟨rfl,hb⟩;refine g.out _ _ (Cs.below hHeld hb) (λhHeld=>?_);have HB:=za (zc HB.o hb);have i:=za (zf hb i.o);have a:=za (zf hb a.o);clear g KK hb;refine rc 3 (λKK g=>?_);go_simp;(with_reducible refine(Y1 (HT.o _ HB.o) (HM.o _ HB.o) HZ.o zb).mono ?_);rintro eo w3 ⟨g3,rfl,aj,Z,hb⟩;refine g.out _ _ (Cs.below hHeld hb) (λhHeld=>?_);have HB:=za (zc HB.o hb);have i:=za (zf hb i.o);have a:=za (zf hb a.o);have HR:=za Z.rows;clear g KK hb aj Z;refine rc 4 (λKK g=>?_);go_simp;(with_reducible refine(bP (HT.o _ HB.o) HR.o HD.o HZ.o HW.o hn zb (qY _) hK ah ai).mono ?_);rintro eo w4 ⟨g4,rfl,ak,⟨A4,cA4,B4,k4,X,z0,z1,z2,u0,u1,u2,C⟩,hb⟩;rw [ag.o] at C;refine g.out _ _ (Cs.below hHeld hb) (λhHeld=>?_);have HB:=za (zc HB.o hb);have i:=za (zf hb i.o);have a:=za (zf hb a.o);have d:=za C;clear g KK hb ak C HR;refine tk 5 ?_;refine zT ?_;clear hHeld;obtain⟨p0,p1⟩:=i.o.c2;go_wp2_with fail;clear p0 p1;refine(uP A n c (m:Int) _).mono ?_;rintro eo w5 ⟨rfl,hb⟩;have HB:=za (zc HB.o hb);have a:=za (zf hb a.o);have d:=za (d.o.below hb);clear hb i;go_wp2_with fail;(with_reducible refine(Yq (HT.o _ HB.o) d.o J.o U.o R.o T.o hn zb zb).mono ?_);rintro eo w6 ⟨g6,rfl,al,E,hb⟩;rw [<-B.o] at E;have HB:=za (zc HB.o hb);have a:=za (zf hb a.o);have d:=za (d.o.below hb);have P:=za E.rows;clear hb al E;go_wp2_with fail;(with_reducible refine(fG (HT.o _ HB.o) P.o I.o hn hm Q.o zb).mono ?_);rintro eo w7 ⟨A7,c7,rfl,hm7,-,hb⟩;obtain⟨k,o,-⟩:=zw w7 28 #[.slice A7 n c7,.int .i64 (m:Int)];have t:=zc hb k;have u:=a;have HB:=za (zc HB.o t);have a:=za (zf t a.o);have d:=za (d.o.below t);have s:=za (hm7.keep k);have L:=za o;have af:zd (w.heap.size+1<w7.heap.size):=(zf hb u.o).lt;clear hb hm7 k o t P u;go_upto_region 3 with fail;generalize w7.alloc (.cells #[.slice A7 n c7,.int .i64 (m:Int)] 28)=W8 at*;generalize w7.heap.size=q7 at*;obtain⟨p0,p1⟩:=L.o.c2;obtain⟨-,p2,-⟩:=d.o.cells;have j:=(qZ W8.heap.size W8).drew;have ae:zd (g4≠w.heap.size+1):=λe=>by subst e;exact absurd (tp d.o.blk a.o) zg
 have O:zd (q7≠w.heap.size+1):=by have:=af.o;show q7≠w.heap.size+1;omega
 refine rg (zl p0 (zl p1 (zl p2 zJ))) (λhHeld=>?_);have HB:=za (zc HB.o j);have a:=za (zf j a.o);have d:=za (d.o.below j);have s:=za (s.o.keep j);clear p0 p1 p2 j L;generalize W8.drew=D8 at*;refine tk 0 ?_;refine tk 1 ?_;refine tk 2 ?_;refine tk 3 ?_;refine tk 4 ?_;obtain⟨am,ao,an,ap⟩:=wS a.o (.slice A7 n c7);obtain⟨r0,r1⟩:=(wR a.o (.slice A7 n c7) (.int .i64 (m:Int))).c2;have aa:=za (tA (.slice A7 n c7) (.int .i64 (m:Int)) (show w.heap.size<=w.heap.size+1 by omega) HB.o);have ad:=za (s.o.offz a.o (.slice A7 n c7) (.int .i64 (m:Int)));have M:=za ((d.o.lds.slot a.o zg 0 (.slice A7 n c7)).slot (a.o.set_ 0 (.slice A7 n c7)) zg 1 (.int .i64 (m:Int)));have ac:=za (M.o.ints N.o);have H:=za d.o.cap;have ab:=za d.o.hk;refine rc 5 (λKK g=>?_);go_simp;refine g.out _ _ (Cs.far hHeld (uj _ _ (.slice A7 n c7) (.int .i64 (m:Int))) ⟨O.o,O.o,ae.o,trivial⟩) (λhHeld=>?_);clear g KK am ao an ap;refine tk 6 ?_;refine zT ?_;clear hHeld d s HB a M;go_wp2;refine bodyPost_ret (v:=.tuple #[.agg #[.slice A7 n c7,.int .i64 (m:Int)],.slice B4 k4 X]) (by simp [results,results23,go_sem,r0,r1]) rfl ?_;exact⟨A7,c7,B4,k4,X,rfl,ab.o.symm,ad.o,ac.o,H.o.2.2.2.1,H.o.2.2.2.2.1,aa.o⟩
end
theorem wN.up {K':Nat}(h:wN K M)(e:K<=K'):wN K' M:=⟨λrow hr=>(h.q row hr).up e,λrow hr x hx=>(h.x row hr x hx).up e⟩
theorem Wq {r:Rat}(i j:Nat):zv (vX r M) i j=r*zv M i j:=by
 unfold zv vX;rw [qQ (l:=List.map _ _),qQ (l:=M),QQ];cases M[i]? with
 |none=>exact(xI r).symm
 |some row=>exact fh j
theorem ji (h:zM M n m):RF n m (zv M) (xd m M).ld (zv (uk m M)):=by
 have e:zv (uk m M)=λi j=>(xd m M).p⁻¹*zv (xd m M).S i j:=by
  funext i j;exact Wq i j
 rw [e];refine RF.of_elim (lQ h) λi hi=>⟨yi (M.getD i []),fq (by decide+kernel),λj hj=>fb h hi j⟩
theorem RF.congr {M M' R:Nat->Nat->Rat}(h:RF n m M ld R)(e:∀i,i<n->∀j,j<m->M i j=M' i j):RF n m M' ld R:=
 ⟨h.len,h.up,h.lt,h.piv,h.zero,h.fore,λi hi j hj=>by
  rw [<-e i hi j hj,h.sum i hi j hj];exact yt λl hl=>by rw [e i hi _ (h.lt l hl)],λl hl=>by
  obtain⟨y,hy⟩:=h.span l hl;exact⟨y,λj hj=>(hy j hj).trans (yt λi hi=>by rw [e i hi j hj])⟩⟩
