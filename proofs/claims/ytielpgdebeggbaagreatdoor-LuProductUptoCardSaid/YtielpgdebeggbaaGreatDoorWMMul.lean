/- What this claim leans on. -/
import Derived.Test.YtielpgdebeggbaaGreatDoorWEDen
set_option linter.unusedVariables false
set_option linter.unusedSimpArgs false
namespace Go.Proofs.YtielpgdebeggbaaGreatDoor
open Go Go.RowKit Go.Proofs.Tryz
set_option maxHeartbeats 16000000
set_option maxRecDepth 100000
variable {Ls M:List (List Rat)}{ld:List Nat}{xs:List Rat}{K c i j k m n:Nat}{w:World}{A:ze}
theorem eJ (M:List (List Rat))(v:List Rat):(uj M v).length=M.length:=by simp [uj]
theorem aN {v:List Rat}(h:i<M.length):(uj M v)[i]?=some (wP (M.getD i []) v):=by
 unfold uj;rw [qN,qQ,qY h];rfl
section
variable {K K':Nat}{w:World}
theorem Ze {q:Nat}{Q:ze}(hT:zt w)(h:yx (z8 zo) w Q n Ls)(hd:∀L ∈ Ls,L.length=k)(hv:zR w A k c xs)(z:z7 K Ls)(zx:zE K' xs)(hn:n<=64:=by omega)(hk:k<=64:=by omega)(hK:K<=67108864:=by omega)(M:K'<=67108864:=by omega)(hS:1+k*(K+K'+1)<=67108864:=by omega):
  Calls prog 49 #[.slice Q n q,.slice A k c] w (tZ w n (uj Ls xs)):=by
 have hl:=h.len;have HR:=za h;have HV:=za hv;have HT:=zj w (λw' hb=>hT.on hb);have HZ:zd (∀i,i<n->zE K (Ls.getD i [])):=λi hi=>z.row zb;have HD:zd (∀i,i<n->(Ls.getD i []).length=k):=λi hi=>hd _ (QJ (wy zb));have HX:=za zx;have s:zd ((uj Ls xs).length=n):=by show _=_;rw [eJ];exact hl
 have HG:zd (∀i,i<n->(uj Ls xs)[i]?=some (wP (Ls.getD i []) xs)):=λi hi=>aN zb;have J:=za hS;obtain⟨ys,F⟩:∃ys,uj Ls xs=ys:=⟨_,rfl⟩;rw [F] at s HG⊢;obtain⟨Z,hZ⟩:=oM n zb;have P:=λW=>(hZ W).1;have m:=za (λW=>(hZ W).2);clear hT h hd hv z zx hl F hZ hS;unfold tZ;have i0:(0:Int)<=(n:Int):=zb;go_enter func49,ntmps49;go_wp2_with fail;clear P;have a:=m.o w;have hB:Below w.heap.size w (w.alloc (.cells Z 52)):=(qZ _ w).alloc (qX _) _;obtain⟨gp,y⟩:∃g,w.heap.size=g:=⟨_,rfl⟩;have E:w.heap.size<=gp:=zb;rw [y] at a⊢;rw [<-tV 0 ys n] at a;generalize w.alloc (.cells Z 52)=W1 at*;clear y m
 go_loopg [13] (n+1) (λg ix wr=>∃(k:Nat),k<=n/\n<g+k/\ix=.int .i64 k/\yh wr gp n (wX 0 ys n k)/\Below w.heap.size w wr)
 case atStart=>exact⟨0,qW _,zb,rfl,a,hB⟩
 case round=>
  clear a hB;obtain⟨i,hkn,hg,rfl,a,hB⟩:=hrel;by_cases hlt:i<n
  ·obtain⟨ad,B,d,rfl,-,hc,C⟩:=HR.o.get (y7 zZ) hB hlt (HD.o i hlt);have N:decide ((i:Int)<(n:Int))=true:=decide_eq_true zb;have i1:(0:Int)<=(i:Int):=zb;have i2:(i:Int)<(n:Int):=zb;have o:=za a;have v:=za C;have j:=za hB;clear C a hB;go_wp2_with fail;(with_reducible refine(jq (HT.o _ j.o) v.o (HV.o.keep j.o) (HZ.o i hlt) HX.o zb hK M J.o).mono ?_);rintro e w3 ⟨b3,A3,n3,c3,E3,k3,f3,rfl,D,hb⟩;clear hc;have t:=o.o.keep hb;have u:=wn.set_ zZ t hlt D;rw [tX 0 ys n i s.o hlt _ (HG.o i hlt)] at u;obtain⟨q0,q1,q2,sc0,sf0,sc1,sf1,sc2,sf2⟩:=t.ready hlt (.bool b3) (.slice A3 n3 c3);have H:=za u;have G:=za (kX (i*3) (i*3+1) (i*3+2) (.bool b3) (.slice A3 n3 c3) (.slice E3 k3 f3) E (zc j.o hb));clear t u hb D o j v;go_wp2;go_roundg (n - i)
   case measure=>omega
   case rel=>exact⟨i+1,zb,zb,by go_num,H.o,G.o⟩
  ·have O:i=n:=zb;subst O;have N:decide ((i:Int)<(i:Int))=false:=zA;have I:=za (tW 0 ys i s.o▸a);have j:=za hB;clear a hB;go_wp2;go_ret;exact⟨gp,rfl,E,I.o,j.o⟩
variable {A:ze}{n c m:Nat}{MM:List (List Rat)}
theorem Rf (h:xF w A n c m MM)(hj:j<m):
  Calls prog 98 #[.agg #[.slice A n c,.int .i64 (m:Int)],.int .i64 (j:Int)] w (tZ w n (td n MM j)):=by
 obtain⟨hn,hm⟩:=And.intro h.hn h.hm;have HR:=λW=>za (tD A n c (m:Int) W);have HM:=za h;have s:zd ((td n MM j).length=n):=fm n MM j;have HG:zd (∀i,i<n->(td n MM j)[i]?=some (zl MM i j)):=λi hi=>by
  unfold td;rw [qN,xL hi];rfl
 obtain⟨ys,H⟩:∃ys,td n MM j=ys:=⟨_,rfl⟩;rw [H] at s HG⊢;obtain⟨Z,hZ⟩:=oM n zb;have O:=λW=>(hZ W).1;have o:=za (λW=>(hZ W).2);obtain⟨C,t,bz⟩:=zu w 28 #[.slice A n c,.int .i64 (m:Int)];obtain⟨g0,g1⟩:=t.c2;have HB:=za C;have HK:=za t;clear h H hZ C t bz;unfold tZ;have i0:(0:Int)<=(n:Int):=zb;go_enter func98,ntmps98;go_wp2_with fail;refine(HR _).o.mono ?_;rintro e w2 ⟨rfl,hb⟩;have z:=za (zc HB.o hb);have v:=zg hb HK.o;have u:Below w2.heap.size w2 (w2.alloc (.cells Z 52)):=(qZ _ w2).alloc (qX _) _;have E:=zg u v;obtain⟨g0,g1⟩:=E.c2;have hsz:=v.lt;clear hb v E HK HB HR;go_wp2_with fail;clear O g0 g1;have a:=o.o w2;have hB:=zc z.o u;obtain⟨gp,D⟩:∃g,w2.heap.size=g:=⟨_,rfl⟩;have G:w.heap.size<=gp:=zb;rw [D] at a⊢;rw [<-tV 0 ys n] at a;generalize w2.alloc (.cells Z 52)=W1 at*;clear D o z u hsz
 go_loopg [14] (n+1) (λg ix wr=>∃(k:Nat),k<=n/\n<g+k/\ix=.int .i64 k/\yh wr gp n (wX 0 ys n k)/\Below w.heap.size w wr)
 case atStart=>exact⟨0,qW _,zb,rfl,a,hB⟩
 case round=>
  clear a hB;obtain⟨i,hkn,hg,rfl,a,hB⟩:=hrel;by_cases hlt:i<n
  ·obtain⟨ad,B,d,rfl,-,hc,ae,b3,A3,n3,c3,E3,k3,f3,rfl,-,h0,h1,h2,F⟩:=HM.o.place hB hlt hj;have M:decide ((i:Int)<(n:Int))=true:=decide_eq_true zb;have i1:(0:Int)<=(i:Int):=zb;have i2:(i:Int)<(n:Int):=zb;have i3:(0:Int)<=(j:Int):=zb;have i4:(j:Int)<(m:Int):=zb;have y:=wn.set_ zZ a hlt F;rw [tX 0 ys n i s.o hlt _ (HG.o i hlt)] at y;obtain⟨q0,q1,q2,sc0,sf0,sc1,sf1,sc2,sf2⟩:=a.ready hlt (.bool b3) (.slice A3 n3 c3);have K:=za y;have J:=za (kX (i*3) (i*3+1) (i*3+2) (.bool b3) (.slice A3 n3 c3) (.slice E3 k3 f3) G hB);clear y F a hB;go_wp2;go_roundg (n - i)
   case measure=>omega
   case rel=>exact⟨i+1,zb,zb,by go_num,K.o,J.o⟩
  ·have N:i=n:=zb;subst N;have M:decide ((i:Int)<(i:Int))=false:=zA;have L:=za (tW 0 ys i s.o▸a);have I:=za hB;clear a hB;go_wp2;go_ret;exact⟨gp,rfl,G,L.o,I.o⟩
def jW (w:World)(n:Nat)(Ls:List (List Rat))(e:Ending)(w':World):Prop:=∃g,e=.returned (.slice (some ⟨g,0,none⟩) n n)/\w.heap.size<=g/\xz (z8 zo) w' 41 g n Ls/\Below w.heap.size w w'
theorem Y1 (h:xF w A n c m MM):
  Calls prog 48 #[.agg #[.slice A n c,.int .i64 (m:Int)]] w (jW w m (vQ n m MM)):=by
 obtain⟨hn,hm⟩:=And.intro h.hn h.hm;have HM:=za h;have t:zd ((vQ n m MM).length=m):=fu _ _ _;have J:zd (∀j,(td n MM j).length=n):=λj=>fm n MM j;have HG:zd (∀j,j<m->(vQ n m MM)[j]?=some (td n MM j)):=λj hj=>dG _ hj;obtain⟨ys,G⟩:∃ys,vQ n m MM=ys:=⟨_,rfl⟩;rw [G] at t HG⊢;obtain⟨Y,hY⟩:=aS m zb;have O:=λW=>(hY W).1;have o:=za (λW=>(hY W).2);obtain⟨D,u,bz⟩:=zu w 28 #[.slice A n c,.int .i64 (m:Int)];obtain⟨g0,g1⟩:=u.c2;have v:=(zu (w.alloc (.cells #[.slice A n c,.int .i64 (m:Int)] 28)) 41 Y).1;have hK:=zg v u;have hB:=zc D v;clear h G hY D u v;unfold jW;have i0:(0:Int)<=(m:Int):=zb;go_enter func48,ntmps48;go_wp2_with fail;clear O g0 g1;have a:=o.o (w.alloc (.cells #[.slice A n c,.int .i64 (m:Int)] 28));have e1:(w.alloc (.cells #[.slice A n c,.int .i64 (m:Int)] 28)).heap.size=w.heap.size+1:=zA;rw [e1] at a;rw [<-tV [] ys m] at a;generalize (w.alloc (.cells #[.slice A n c,.int .i64 (m:Int)] 28)).alloc (.cells Y 41)=W1 at*;obtain⟨gb,E⟩:∃g,w.heap.size=g:=⟨_,rfl⟩;have hwg:w.heap.size<=gb:=zb;rw [E] at a hK⊢;clear e1 o E bz
 go_loopg [10] (m+1) (λg ix wr=>∃(k:Nat),k<=m/\m<g+k/\ix=.int .i64 k/\xz (z8 zo) wr 41 (gb+1) m (wX [] ys m k)/\Below w.heap.size w wr/\zh wr gb 28 #[.slice A n c,.int .i64 (m:Int)])
 case atStart=>exact⟨0,qW _,zb,rfl,a,hB,hK⟩
 case round=>
  clear a hB hK;obtain⟨i,hkn,hg,rfl,a,hB,hK⟩:=hrel;by_cases hlt:i<m
  ·have M:decide ((i:Int)<(m:Int))=true:=decide_eq_true zb;have i1:(0:Int)<=(i:Int):=zb;have i2:(i:Int)<(m:Int):=zb;obtain⟨g0,g1⟩:=hK.c2;have s:=za a;have d:=za hB;have C:=za hK;have B:=za (HG.o i hlt);clear a hB hK;go_wp2_with fail;(with_reducible refine(Rf (HM.o.keep d.o) hlt).mono ?_);rintro e w5 ⟨g5,rfl,hg5,F,hb⟩;clear g0 g1;have y:=s.o.below (y7 zZ) hb;have z:=xz.set_ (y7 zZ) y hlt (xe F) (J.o i);rw [tX [] ys m i t.o hlt _ B.o] at z;obtain⟨q0,sc0,sf0⟩:=y.ready hlt;have L:=za z;have H:=za (zM (p:=⟨gb+1,i,none⟩) (.slice (some ⟨g5,0,none⟩) n n) (show w.heap.size<=gb+1 by omega) (zc d.o hb));have I:=za (zh.far (p:=⟨gb+1,i,none⟩) (zg hb C.o) (by show gb≠gb+1;omega) (.slice (some ⟨g5,0,none⟩) n n));clear y z F hb s d C B;go_wp2;go_roundg (m - i)
   case measure=>omega
   case rel=>exact⟨i+1,zb,zb,by go_num,L.o,H.o,I.o⟩
  ·have N:i=m:=zb;subst N;have M:decide ((i:Int)<(i:Int))=false:=zA;have K:=za (tW [] ys i t.o▸a);have d:=za hB;clear a hB hK;go_wp2;go_ret;exact⟨gb+1,rfl,zb,K.o,d.o⟩
variable {V:ze}{k cv:Nat}{xs:List Rat}
theorem Q4 (hT:zt w)(h:xF w A n c m MM)(hv:zR w V m cv xs)(z:z7 K MM)(zx:zE K' xs)(hK:K<=67108864:=by omega)(j:K'<=67108864:=by omega)(hS:1+m*(K+K'+1)<=67108864:=by omega):
  Calls prog 28 #[.agg #[.slice A n c,.int .i64 (m:Int)],.slice V m cv] w (uX w n (uj MM xs)):=by
 have e0:((m:Int) !=(m:Int))=false:=zA;obtain⟨a,d,bz⟩:=zu w 28 #[.slice A n c,.int .i64 (m:Int)];obtain⟨g0,g1⟩:=d.c2;have HD:=za (Ze (q:=c) (hT.on a) (h.keep a).rows h.dims.cols (hv.keep a) z zx h.hn h.hm hK j hS);have HB:=za a;clear h a d bz hT hv z zx;unfold uX;go_enter func28,ntmps28;go_wp2_with fail;refine HD.o.mono ?_;rintro e w5 ⟨g5,rfl,g,i,hb⟩;have HG:=za (And.intro (qH HB.o.size g) (And.intro i (zc HB.o hb)));clear g0 g1 g i hb;go_wp2
 go_ret2
 exact⟨g5,rfl,HG.o⟩
theorem kv (hT:zt w)(h:xF w A n c m MM)(hv:zR w V n cv xs)(z:z7 K MM)(zx:zE K' xs)(hK:K<=67108864:=by omega)(s:K'<=67108864:=by omega)(hS:1+n*(K+K'+1)<=67108864:=by omega):
  Calls prog 29 #[.agg #[.slice A n c,.int .i64 (m:Int)],.slice V n cv] w (uX w m (uj (vQ n m MM) xs)):=by
 have e0:((n:Int) !=(n:Int))=false:=zA;have HR:=λW=>za (tD A n c (m:Int) W);obtain⟨i,g,bz⟩:=zu w 28 #[.slice A n c,.int .i64 (m:Int)];obtain⟨g0,g1⟩:=g.c2;have HC:=za (λW (hb:Below w.heap.size w W)=>Y1 (h.keep hb));have HD:=za (λW (Q:ze) (q:Nat) (hb:Below w.heap.size w W) (hr:yx (z8 zo) W Q m (vQ n m MM))=>Ze (q:=q) (hT.on hb) hr (Vi n m MM).cols (hv.keep hb) (z.turn h.dims) zx h.hm h.hn hK s hS);have HB:=za i;have HK:=za g;clear h i g bz hT hv z zx;unfold uX;go_enter func29,ntmps29;go_wp2_with fail;refine(HR _).o.mono ?_;rintro e w2 ⟨rfl,hb⟩;have a:=za (zc HB.o hb);obtain⟨g0,g1⟩:=(zg hb HK.o).c2;clear hb HB;go_wp2_with fail;refine(HC.o _ a.o).mono ?_;rintro e w3 ⟨g3,rfl,hg3,k,hb⟩;have d:=za (zc a.o hb);have HO:=za k.rows;clear hb a k g0 g1;go_wp2_with fail;refine(HD.out _ _ _ d.o HO.o).mono ?_;rintro e w5 ⟨g5,rfl,j,o,hb⟩;have HG:=za (And.intro (qH d.o.size j) (And.intro o (zc d.o hb)));clear j o hb;go_wp2
 go_ret2
 exact⟨g5,rfl,HG.o⟩
end
section
variable {w:World}
def vi (c:Nat)(Ls:List (List Rat)):Int:=if Ls.findIdx (λrow=> !decide (row.getD c 0=0))<Ls.length then((Ls.findIdx (λrow=> !decide (row.getD c 0=0)):Nat):Int) else -1
theorem nH (hk:k<Ls.length)(h0:∀j,j<k->(Ls.getD j []).getD c 0=0)(h1:(Ls.getD k []).getD c 0≠0):vi c Ls=(k:Int):=by
 have e:Ls.findIdx (λrow=> !decide (row.getD c 0=0))=k:=by
  rw [List.findIdx_eq hk];have hg:∀j (hj:j<Ls.length),Ls.getD j []=Ls[j]:=λj hj=>by rw [qQ,qY hj];rfl
  refine⟨by rw [hg k hk] at h1;simpa using h1,λj hj=>?_⟩;have:=h0 j hj;rw [hg j zb] at this;simpa using this
 unfold vi;rw [e,if_pos hk]
theorem Q7 {x:Rat}(h:(!decide (x=0))=true):x≠0:=by simpa using h
theorem Qv (h0:∀j,j<Ls.length->(Ls.getD j []).getD c 0=0):vi c Ls= -1:=by
 unfold vi;rw [if_neg];intro h;have h1:=List.findIdx_getElem (p:=λrow:List Rat=> !decide (row.getD c 0=0)) (xs:=Ls) (w:=h);have h2:=h0 _ h;rw [qQ (l:=Ls),qY h] at h2;exact Q7 h1 h2
end
theorem yx.drop_ {α:Type}{R:RP α}{r:Nat}{Ls:List (List α)}(h:yx R w A n Ls)(hr:r<=n):yx R w (Option.map (λx=>x.add r) A) (n - r) (Ls.drop r):=by
 refine⟨by rw [xZ,h.len],λi L hi=>?_⟩;rw [YR] at hi;obtain⟨ad,B,d,rfl,h1,h2,h3⟩:=h.num _ L hi;exact⟨_,B,d,rfl,by rw [yk];exact h1,by rw [gW];exact h2,h3⟩
theorem sW.msz {a0:Nat->Nat->Rat}{S:List (List Rat)}{p:Rat}(hd:zO S n m)(hi:∃a,vf n a0 a/\xy n m c a (zl S) ld p)(hn:n<=64)(h0:∀i,i<n->∀j,j<m->LI K (a0 i j)):z7 (67+65*K) S:=λL hL x hx=>by
 obtain⟨a,hs,hi⟩:=hi;obtain⟨i,d,rfl⟩:=List.mem_iff_getElem.1 hL;obtain⟨j,g,rfl⟩:=List.mem_iff_getElem.1 hx;have h1:=hd.rows;have h2:=hd.cols _ hL;have:=(hi.sz hn (hs.li h0) (i:=i) (j:=j) zb zb).szq zb;have e:zl S i j=S[i][j]:=by
  unfold zl;rw [qQ (l:=S),qY d];show S[i].getD j 0=_;rw [qQ,qY g];rfl
 rw [e] at this;exact this
section
variable {P:Program}{ops:Array Oper}{Q:Exit->Act->World->Prop}{S:World->Prop}{fuel:Nat}{l:Array Bool}{a:Act}{w:World}
end
section
variable {w w':World}{g:Nat}{st:v8}{rd:Rat}{A:ze}{n cA:Nat}{B:ze}{k cB:Nat}{x0 x1 x2 y0 y1 y2:Value}
theorem xl.grownA (h:xl w g st rd A n cA B k cB x0 x1 x2 y0 y1 y2)(hg:w.grownBy w' (Value.slice A n cA).ownBlock):zh w' g 106 #[.slice A n cA,.slice B k cB,x0,x1,x2,y0,y1,y2]/\ws w' g (.slice B k cB) st.ld/\RV w' st.p x0 x1 x2/\RV w' rd y0 y1 y2:=by
 cases hv:(Value.slice A n cA).ownBlock with
 |none=>
   rw [hv] at hg;have:=h.below (su hg);exact⟨this.blk,this.lds,this.lead,this.rsd⟩
 |some q=>
   rw [hv] at hg;obtain⟨d,cs,hk,hs⟩:=h.neA hv;have ho:=zP.of_grown hg;refine⟨(hg.block g h.blk.lt (λe=>d (by injection e with e;exact e.symm))).trans h.blk,h.lds.off (λq2 s ds c a=>?_),h.lead.off hk (oP hs) ho,h.rsd.off hk (oP hs) ho⟩;obtain⟨_,ds',h1,_⟩:=h.neB c;exact(hg.block q2 a.lt (λe=>by injection e with e;subst e;exact absurd (ir h1 hk) zf)).trans a
theorem xl.growRow {d:Nat}{C:ze}{L:List Rat}{v':Value}{vs:List Value}(h:xl w g st rd A n cA B k cB x0 x1 x2 y0 y1 y2)(hr:wl (VZ g) w g 41 (.slice A n cA) st.S vs)(hg:w.grownBy w' (Value.slice A n cA).ownBlock)(ho:w'.ownsRow g 41 1 v' (n+1) (vs++[.slice C m d]))(hp:wm w' v')(hx:VZ g w C m d L)(hm:L.length=m):∃A' cA',v'=.slice A' (n+1) cA'/\xl (w'.setCell ⟨g,0,none⟩ v') g {st with S:=st.S++[L]} rd A' (n+1) cA' B k cB x0 x1 x2 y0 y1 y2:=by
 obtain⟨h1,h2,h3,h4⟩:=h.grownA hg;have hl:=hr.grow (tC g) hx hm ho (by rw [h.hn]) hg hp;have c:(st.S++[L]).length=n+1:=by rw [qB,h.hn];rfl
 obtain⟨A',cA',e,-⟩:=hl.shape c;subst e;refine⟨A',cA',rfl,?_⟩;have o:∀q,(Value.slice A' (n+1) cA').ownBlock=some q->q≠g:=λq hq=>by
  rcases ho.2 with⟨h5,_⟩|⟨g',cap,cur,e1,e2,e3,_⟩
  ·rw [h5] at hq;cases hq
  ·rw [e1] at hq;simp [Value.ownBlock] at hq;subst hq;intro e;exact absurd (ir e3 (e▸h1)) zf
 have j:∀q,(Value.slice B k cB).ownBlock=some q->q≠g:=λq hq=>(h.neB hq).1;have a:=h.nok;have i:zP g w' (w'.setCell ⟨g,0,none⟩ (.slice A' (n+1) cA')):=zP.of_far ((yb.refl g w').set_ 0 _);exact {
  blk:=h1.set_ 0 _
  hn:=c
  hk:=h.hk
  rows:=⟨_,hl.off (λq s cs hq hk=>zh.far (p:=⟨g,0,none⟩) hk (o q hq) _) (λhx=>UB hx h1 a i)⟩
  lds:=h2.off λq s cs hq hk=>zh.far (p:=⟨g,0,none⟩) hk (j q hq) _
  lead:=h3.off h1 a i
  rsd:=h4.off h1 a i}
theorem xl.newRd {r:Rat}{z0 z1 z2:Value}(h:xl w g st rd A n cA B k cB x0 x1 x2 y0 y1 y2)(hp:RV w r z0 z1 z2):xl (((w.setCell ⟨g,5,none⟩ z0).setCell ⟨g,6,none⟩ z1).setCell ⟨g,7,none⟩ z2) g st r A n cA B k cB x0 x1 x2 z0 z1 z2:=
 h.store ((((yb.refl g w).set_ 5 z0).set_ 6 z1).set_ 7 z2) (((h.blk.set_ 5 z0).set_ 6 z1).set_ 7 z2) h.lead hp λq s cs hq hk=>zh.far (p:=⟨g,7,none⟩) (zh.far (p:=⟨g,6,none⟩) (zh.far (p:=⟨g,5,none⟩) hk hq z0) hq z1) hq z2
theorem xl.new {b1 b2:Bool}{A1 A2 E1 E2:ze}{n1 c1 k1 f1 n2 c2 k2 f2:Nat}(w:World)(h1:zo w 1 b1 A1 n1 c1 E1 k1 f1)(h2:zo w 1 b2 A2 n2 c2 E2 k2 f2):xl (w.alloc (.cells #[.slice none 0 0,.slice none 0 0,.bool b1,.slice A1 n1 c1,.slice E1 k1 f1,.bool b2,.slice A2 n2 c2,.slice E2 k2 f2] 106)) w.heap.size ⟨[],[],1⟩ 1 none 0 0 none 0 0 (.bool b1) (.slice A1 n1 c1) (.slice E1 k1 f1) (.bool b2) (.slice A2 n2 c2) (.slice E2 k2 f2):=by
 obtain⟨hb,hk,-⟩:=zu w 106 #[.slice none 0 0,.slice none 0 0,.bool b1,.slice A1 n1 c1,.slice E1 k1 f1,.bool b2,.slice A2 n2 c2,.slice E2 k2 f2];exact{blk:=hk,hn:=rfl,hk:=rfl,rows:=⟨[],wl.nil _ _ _⟩,lds:=ws.nil _ _,lead:=RV.of (h1.below hb),rsd:=RV.of (h2.below hb)}
def vm (M:List (List Rat)):List (List Rat):=M.map λrow=>zT (zI row) row
def vM (M:List (List Rat)):Rat:=M.foldl (λr row=>r*zI row) 1
theorem SP (h:i<M.length):vm (M.take (i+1))=vm (M.take i)++[zT (zI (M.getD i [])) (M.getD i [])]:=by
 unfold vm;rw [QZ h,YY,qQ,qY h];rfl
theorem aA (h:i<M.length):vM (M.take (i+1))=vM (M.take i)*zI (M.getD i []):=by
 unfold vM;rw [QZ h,yI,qQ,qY h];rfl
theorem SO (h:zO M n m):zO (vm M) n m:=⟨by unfold vm;rw [QH];exact h.rows,λL hL=>by
 unfold vm at hL;obtain⟨row,hr,rfl⟩:=List.mem_map.1 hL;exact Qa (h.cols row hr)⟩
theorem aZ (h:zO M n m){i:Nat}(hi:i<n)(j:Nat):zl (vm M) i j=zI (M.getD i [])*zl M i j:=by
 have hl:=h.rows;unfold zl vm;rw [qQ (l:=List.map _ _),qN,wy (d:=[]) zb];exact oc j
structure xc (K:Nat)(M:List (List Rat)):Prop where
 q:∀row ∈ M,LI K (zI row)
 x:∀row ∈ M,∀x ∈ row,LI K (zI row*x)
theorem xc.at_ {n:Nat}(h:xc K M)(hd:zO M n m):∀i,i<n->∀j,j<m->LI K (zl (vm M) i j):=λi hi j hj=>by
 rw [aZ hd hi];have hl:=hd.rows;have hr:=hd.row hi;have h1:M.getD i [] ∈ M:=QJ (wy zb);refine h.x _ h1 _ ?_;unfold zl;exact QJ (wy (d:=0) zb)
theorem eX {K:Nat}{M:List (List Rat)}(h:xc K M):∀i,i<=M.length->LI (1+i*K) (vM (M.take i))
 |0,_=>by rw [Nat.zero_mul];exact LI.one
 |i+1,hi=>by
   rw [aA zb];exact((eX h i zb).mul (h.q _ (QJ (wy zb)))).up (by rw [Nat.succ_mul];omega)
end
theorem kO (h:zt w):0<w.heap.size:=QB w ⟨0,0,none⟩ (h 0 zf)
theorem xl.ownA {g:Nat}{st:v8}{rd:Rat}{cA:Nat}{B:ze}{cB:Nat}{x0 x1 x2 y0 y1 y2:Value}(h:xl w g st rd A n cA B k cB x0 x1 x2 y0 y1 y2):∀q,(Value.slice A n cA).ownBlock=some q->g<=q:=λq hq=>by
 obtain⟨-,-,-,-,-,h1⟩:=h.cap;cases hA:A with
 |none=>rw [hA] at hq;simp [Value.ownBlock] at hq
 |some ad=>
   rw [hA] at hq;simp [Value.ownBlock] at hq;have:=h1 ad hA;omega
theorem WV:∀{M:List (List Rat)} {r:Rat},r≠0->M.foldl (λr row=>r*zI row) r≠0
 |[],_,h=>h
 |L::M,r,h=>by
   rw [List.foldl_cons];refine WV λe=>?_;rcases Rat.mul_eq_zero.1 e with e|e
   ·exact h e
   ·exact Vo L e
theorem Rq (M:List (List Rat)):vM M≠0:=WV (by decide+kernel)
section
variable {w:World}{A:ze}{n c m K K0:Nat}{MM:List (List Rat)}
end
theorem xc.up {K':Nat}(h:xc K M)(e:K<=K'):xc K' M:=⟨λrow hr=>(h.q row hr).up e,λrow hr x hx=>(h.x row hr x hx).up e⟩
theorem RF.congr {M M' R:Nat->Nat->Rat}(h:RF n m M ld R)(e:∀i,i<n->∀j,j<m->M i j=M' i j):RF n m M' ld R:=
 ⟨h.len,h.up,h.lt,h.piv,h.zero,h.fore,λi hi j hj=>by
  rw [<-e i hi j hj,h.sum i hi j hj];exact ya λl hl=>by rw [e i hi _ (h.lt l hl)],λl hl=>by
  obtain⟨y,hy⟩:=h.span l hl;exact⟨y,λj hj=>(hy j hj).trans (ya λi hi=>by rw [e i hi j hj])⟩⟩
theorem ZC:(xs.drop n).getD j 0=xs.getD (n+j) 0:=by
 rw [qQ,qQ,YR]
theorem uB.pre {W:World}{R:sK}(h:uB W A n c R)(hk:k<=n):uB W A k c R:=⟨qH hk h.fits,h.small,λr hr=>h.row r zb⟩
