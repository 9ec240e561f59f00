/- What this claim leans on. -/
import Derived.Test.YtdfdjfiognhbgaaGreatDoorDEAwake
set_option linter.unusedVariables false
set_option linter.unusedSimpArgs false
namespace Go.Proofs.YtdfdjfiognhbgaaGreatDoor
open Go Go.RowKit Go.Proofs.Tryz
open Go.ChangeShapes Go.WideShapes Go.ChangeAt Go.Deep
set_option maxHeartbeats 16000000
variable {M X:List (List Rat)}{xs:List Rat}{K c d j k n:Nat}{t t0:TypeId}{v:Value}{W w:World}
theorem Tn {H:Type}{i:TypeId×Value->H}{P:Program}{t9:TypeId}{f0 f1:Field}{x:DataW H×List MemPlace}
  (g:P.underlying t9=some (.slice t0)) (j:P.cellsOf t0=1) (ht:P.underlying t0=some (.slice t)) (hs:P.underlying t=some (.struct #[f0,f1])) (hf:(f0.offset,P.cellsOf f0.type,f1.offset,P.cellsOf f1.type)=(0,1,1,1)) (hC:P.cellsOf t=2) (h0:P.underlying f0.type=some (.int .i64)) (h1:P.underlying f1.type=some (.int .i64))
  (h:DataW.trod i P W 0 (λ_=>true) true d t9 [v]=some x) (hb:Rows.uptoBulk x.1<=1048576):∃A n c R,v=.slice A n c/\uf W A n c R:=by
 have go:∀A n c,[v]=[Value.slice A n c]->∃A n c R,v=.slice A n c/\uf W A n c R:=λA n c e=>by
  simp only [List.cons.injEq,and_true] at e;subst e;obtain⟨R,hR⟩:=TC g j ht hs hf hC h0 h1 (A:=A) (n:=n) (c:=c) (by simpa [Value.cells] using h) hb;exact⟨A,n,c,R,rfl,hR⟩
 rcases open_slice g h with⟨hcs,_⟩|⟨a,len,cap,m,k,D,Pl,hcs,_⟩
 ·exact go _ _ _ hcs
 ·exact go _ _ _ hcs
theorem iY {H:Type}{g:TypeId×Value->H}{P:Program}{r:Reach}{b0:Nat}{t8 t9:TypeId}{g0 g1 f0 f1:Field}{d:DataW H}{p:List MemPlace}
  (k:P.underlying t8=some (.struct #[g0,g1])) (a:oneCellFields P #[g0,g1]=true) (i:P.cellsOf t8=2) (k0:P.underlying g0.type=some (.int .u8)) (o:P.underlying g1.type=some (.slice t0)) (j:P.cellsOf t0=1) (ht:P.underlying t0=some (.slice t))
  (hs:P.underlying t=some (.struct #[f0,f1])) (hf:(f0.offset,P.cellsOf f0.type,f1.offset,P.cellsOf f1.type)=(0,1,1,1)) (hC:P.cellsOf t=2) (h0:P.underlying f0.type=some (.int .i64)) (h1:P.underlying f1.type=some (.int .i64))
  (hv:Value.okWide P W r b0 t8 v) (h:DataW.Trod g P W 0 (λ_=>true) true t8 v d p) (hb:Rows.uptoBulk d<=1048576):∃(z:Nat) (A:ze) (n c:Nat) (R:Nat->ze×Nat×Nat×List (Int×Int)),v=.agg #[.int .u8 (z:Int),.slice A n c]/\z<=255/\uf W A n c R:=by
 obtain⟨v0,v1,y0,y1,n,rfl,rfl,rfl,e0,e1⟩:=Go.Joins.open_agg2 k a i hv h;obtain⟨z,hz,_,wz⟩:=DataW.trod_int k0 e0;simp only [List.cons.injEq,and_true] at hz;subst hz;have bz:=bounds_u8 wz;obtain⟨A,m,c,R,rfl,hR⟩:=Tn o j ht hs hf hC h0 h1 e1 (by simp only [Rows.uptoBulk,Rows.uptoBulkAll] at hb;omega);exact⟨z.toNat,A,m,c,R,by rw [Int.toNat_of_nonneg bz.1],zb,hR⟩
open Go Go.RowKit Go.Proofs.Tryz
set_option maxHeartbeats 16000000
def dl (i j:Nat):Rat:=if i=j then 1 else 0
theorem rG {X V:Nat->Nat->Rat}(h:∀i,i<n->∀j,j<n->zC n (λl=>X i l*V l j)=dl i j):zI n X*zI n V=1:=by
 rw [<-s8,uq (M:=vp n X V) (N:=wD) λi hi j hj=>h i hi j hj,aW]
def iP (n:Nat)(row:List Rat)(i:Nat):List Rat:=row++uV n i
def tM (n:Nat)(X:List (List Rat))(r:Nat):List (List Rat):=X.mapIdx λi row=>if i<r then iP n row i else row
def wv (n:Nat)(X:List (List Rat)):List (List Rat):=tM n X n
theorem PI (n i:Nat):(uV n i).length=n:=by unfold uV;simp
theorem pK {i:Nat}(hj:j<n):(uV n i).getD j 0=if i=j then 1 else 0:=by
 unfold uV;rw [qQ,List.getElem?_set];by_cases e:i=j
 ·rw [if_pos e,if_pos e,if_pos (by simp;omega)];rfl
 ·rw [if_neg e,if_neg e,List.getElem?_replicate,if_pos hj];rfl
theorem bE {n:Nat}{X:List (List Rat)}{r i:Nat}(hi:i<X.length):(tM n X r).getD i []=if i<r then iP n (X.getD i []) i else X.getD i []:=by
 unfold tM;rw [qQ,List.getElem?_mapIdx,qX hi];show(if i<r then _ else _)=_;rw [show X.getD i []=X[i] by rw [qQ,qX hi];rfl]
theorem SM (n:Nat)(X:List (List Rat)):tM n X 0=X:=by
 unfold tM;apply List.ext_getElem?;intro i;rw [List.getElem?_mapIdx];cases X[i]?<;>rfl
theorem Qm {r:Nat}(hr:r<X.length):(tM n X r).set r (iP n (X.getD r []) r)=tM n X (r+1):=by
 apply List.ext_getElem?;intro i;unfold tM;rw [List.getElem?_mapIdx,List.getElem?_set];by_cases e:r=i
 ·subst e;rw [if_pos rfl,if_pos (by rw [List.length_mapIdx];exact hr),qX hr];dsimp only [Option.map_some];rw [if_pos zb,show X.getD r []=X[r] by rw [qQ,qX hr];rfl]
 ·rw [if_neg e,List.getElem?_mapIdx];cases X[i]? with
  |none=>rfl
  |some row=>
    dsimp only [Option.map_some];by_cases e2:i<r
    ·rw [if_pos e2,if_pos zb]
    ·rw [if_neg e2,if_neg zb]
theorem bD {r:Nat}:(tM n X r).length=X.length:=by unfold tM;rw [List.length_mapIdx]
theorem it (h:zM X n n):zM (wv n X) n (n+n):=⟨by unfold wv;rw [bD,h.rows],λL hL=>by
 obtain⟨i,hi,rfl⟩:=List.mem_iff_getElem.1 hL;have a:i<X.length:=by have:=hi;unfold wv at this;rw [bD] at this;exact this
 have e:(wv n X)[i]=(wv n X).getD i []:=by rw [qQ,qX hi];rfl
 rw [e];unfold wv;rw [bE a,if_pos (by rw [<-h.rows];exact a)];unfold iP;rw [QV,PI,h.row (by rw [<-h.rows];exact a)]⟩
theorem WF (h:zM X n n){i:Nat}(hi:i<n):(wv n X).getD i []=X.getD i []++uV n i:=by
 unfold wv;rw [bE (by rw [h.rows];exact hi),if_pos hi];rfl
theorem Wr (h:zM X n n){i j:Nat}(hi:i<n)(hj:j<n):zv (wv n X) i j=zv X i j:=by
 unfold zv;rw [WF h hi,qQ,QR (by rw [h.row hi];exact hj),<-qQ]
theorem SL (h:zM X n n){i j:Nat}(hi:i<n)(hj:j<n):zv (wv n X) i (n+j)=dl i j:=by
 unfold zv;rw [WF h hi,qQ,QK (by rw [h.row hi];omega),h.row hi,show n+j - n=j by omega,<-qQ,pK hj];rfl
theorem V3 (h:zV K X)(hK:1<=K):zV K (wv n X):=λL hL x hx=>by
 unfold wv tM at hL;obtain⟨i,hi,rfl⟩:=List.mem_mapIdx.1 hL
 split at hx
 ·unfold iP at hx;rcases List.mem_append.1 hx with hx|hx
  ·exact h _ (xS _) x hx
  ·unfold uV at hx;rcases XQ hx with hx|rfl
   ·rw [List.eq_of_mem_replicate hx];exact(LI.zero K).szq hK
   ·exact(LI.one.up hK).szq hK
 ·exact h _ (xS _) x hx
def xv (n:Nat)(X:List (List Rat)):wn:=tO n (x4 (wv n X))
theorem jO (h:zM X n n):wh n (n+n) n (zv (x4 (wv n X))) (xv n X):=eW (cU (it h)) (Nat.le_add_right n n)
theorem U9 (h:zM X n n):∃R,RF n n (zv X) (xv n X).ld R:=by
 obtain⟨hd,a,hs,hi⟩:=jO h;have hk:wh n n n (zv (x4 (wv n X))) ⟨vk n n (zv (xv n X).S),(xv n X).ld,(xv n X).p⟩:=by
  refine⟨eI _ _ _,a,hs,x6.congr (s:=zv (xv n X).S) ?_ λi hi j hj=>Tb hi hj⟩;exact⟨hi.len,qY _,hi.up,hi.lt,hi.ne,hi.piv,hi.low,hi.fore,λi h1 j h2=>hi.back i h1 j zb,hi.det⟩
 have hr:=RF.of_elim (a0:=zv (x4 (wv n X))) (M:=zv X) hk λi hi=>⟨yi ((wv n X).getD i []),fq (by decide+kernel),λj hj=>by rw [fb (it h) hi,Wr h hi hj]⟩;exact⟨_,hr⟩
theorem pw (h:zM X n n):(xv n X).ld.length<=n:=by obtain⟨_,_,_,hi⟩:=jO h;exact hi.len
def tt (n:Nat)(X:List (List Rat)):List (List Rat):=(vX (xv n X).p⁻¹ (xv n X).S).map (List.drop n)
theorem PP (h:zM X n n):zM (tt n X) n n:=by
 have hd:=fW (jO h).dims (xv n X).p⁻¹;refine⟨by unfold tt;rw [xV];exact hd.rows,λL hL=>?_⟩;unfold tt at hL;obtain⟨row,hr,rfl⟩:=List.mem_map.1 hL;rw [XX,hd.cols row hr];omega
theorem nr:(xs.drop n).getD j 0=xs.getD (n+j) 0:=by
 rw [qQ,qQ,YP]
theorem nD (h:zM X n n){i j:Nat}(hi:i<n):zv (tt n X) i j=(xv n X).p⁻¹*zv (xv n X).S i (n+j):=by
 have hd:=fW (jO h).dims (xv n X).p⁻¹;rw [<-Wq];unfold zv tt;rw [qQ (l:=List.map _ _),QQ,vY (d:=[]) (by rw [hd.rows];exact hi)];exact nr
theorem pt (h:zM X n n)(hl:(xv n X).ld.length<n):zI n (zv X)=0:=by
 obtain⟨R,hr⟩:=U9 h;obtain⟨c,hc,hn⟩:=Y2 hl;exact VQ (v:=uK (xv n X).ld R c) hc (by rw [Vh hn,if_pos rfl]) λi hi=>hr.ker hc hi
theorem pu (h:zM X n n)(hl:¬(xv n X).ld.length<n):∀i,i<n->∀j,j<n->zC n (λl=>zv X i l*zv (tt n X) l j)=dl i j:=λi hi j hj=>by
 obtain⟨R,hr⟩:=U9 h;have c:(xv n X).ld.length=n:=by have:=pw h;omega
 have d:=VL hr c;obtain⟨hd,a,hs,hv⟩:=jO h;obtain⟨i',k1,e,k2,k3⟩:=hs.rows.2 i hi;have hb:=hv.back i' k1 (n+j) zb;rw [c,if_neg zb,XJ] at hb;have hp:=hv.ne;have ht:yi ((wv n X).getD i [])≠0:=fq (by decide+kernel);have w1:∀q,q<n+n->a i' q=e*(yi ((wv n X).getD i [])*zv (wv n X) i q):=λq hq=>by
  have:=k3 q;rw [fb (it h) hi] at this;rw [this];grind
 have e1:zC n (λl=>a i' ((xv n X).ld.getD l 0)*zv (xv n X).S l (n+j))=e*yi ((wv n X).getD i [])*zC n (λl=>zv X i l*zv (xv n X).S l (n+j)):=by
  rw [wU];exact yt λl hl=>by rw [d l hl,w1 l zb,Wr h hi hl];grind
 rw [e1,w1 _ zb,SL h hi hj] at hb;have e2:zC n (λl=>zv X i l*zv (tt n X) l j)=(xv n X).p⁻¹*zC n (λl=>zv X i l*zv (xv n X).S l (n+j)):=by
  rw [wU];exact yt λl hl=>by rw [nD h hl];grind
 rw [e2];generalize zC n (λl=>zv X i l*zv (xv n X).S l (n+j))=x at*;generalize yi ((wv n X).getD i [])=t at*;generalize (xv n X).p=p at*;have he:e≠0:=by intro h;rw [h] at k2;exact absurd k2 (by decide+kernel)
 have e3:e*t≠0:=by grind
 have:(e*t)*(p*dl i j)=(e*t)*x:=by grind
 have:p*dl i j=x:=by grind
 grind
theorem Px (h:zM X n n):(xv n X).ld.length<n↔zI n (zv X)=0:=by
 refine⟨pt h,λh0=>Classical.byContradiction λhl=>?_⟩;have:=rG (pu h hl);rw [h0,yV] at this;exact absurd this (by decide+kernel)
theorem Ta (h:zM X n n)(hn:n<=64)(hW:wN K (wv n X)):zV ((67+65*K)+(67+65*K)) (tt n X)/\zm (67+65*K) (xv n X).p/\(xv n X).p≠0/\zV (67+65*K) (xv n X).S:=by
 have a:=jO h;have ha:=hW.at_ (it h);obtain⟨h1,h2⟩:=wh.psz a.inv hn ha;have h3:=wh.msz a.dims a.inv hn ha;refine⟨λL hL=>?_,h1,h2,h3⟩;unfold tt at hL;obtain⟨row,hr,rfl⟩:=List.mem_map.1 hL;exact λx hx=>WC h1.inv h3 row hr x (XD hx)
open Go Go.RowKit Go.Proofs.Tryz
set_option maxHeartbeats 16000000
set_option maxRecDepth 100000
def X7 (w:World)(n m:Nat)(Ls:List (List Rat))(e:Ending)(w':World):Prop:=∃g,e=.returned (.slice (some ⟨g,0,none⟩) n n)/\w.heap.size<=g/\xj (tc m) w' 64 g n Ls/\Below w.heap.size w w'
section
variable {w:World}{A:ze}{n c m K:Nat}{MM:List (List Rat)}
theorem TE (hT:zu w)(h:yF w A n c m MM)(z:zV K MM)(hK:K+2<=67108864:=by omega):
  Calls prog 34 #[.agg #[.slice A n c,.int .i64 (m:Int)]] w (X7 w n m MM):=by
 obtain⟨hn,hm⟩:=And.intro h.hn h.hm;have HM:=zj w (λw' hb=>h.keep hb);have HT:=zj w (λw' hb=>hT.on hb);have HZ:=za z;have HR:=λW=>za (oE A n c (m:Int) W);have D:zd (MM.length=n):=h.dims.rows;have J:zd (∀i,i<n->(MM.getD i []).length=m):=λi hi=>h.dims.row hi;have HG:zd (∀i,i<n->MM[i]?=some (MM.getD i [])):=λi hi=>vY (by have:=h.dims.rows;omega);obtain⟨Y,hY⟩:=Rh (iF m) n zb;have P:=λW=>(hY W).1;have j:=za (λW=>(hY W).2);obtain⟨E,s,bz⟩:=zw w 28 #[.slice A n c,.int .i64 (m:Int)];obtain⟨g0,g1⟩:=s.c2;have HB:=za E;have HK:=za s;clear h hY E s bz hT z;unfold X7;have i0:(0:Int)<=(n:Int):=zb;go_enter func34,ntmps34;go_wp2_with fail;generalize w.alloc (.cells #[.slice A n c,.int .i64 (m:Int)] 28)=W1 at*;refine(HR _).o.mono ?_;rintro eo w1 ⟨rfl,hb⟩;have u:=zf hb HK.o;have F:=zc HB.o hb;clear hb g0 g1 HR HB HK;go_wp2_with fail;clear P;have a:=j.o w1;have t:=(zw w1 64 Y).1;have hK:=zf t u;have hB:=zc F t;have hlt1:=u.lt;rw [<-mR [] MM n] at a;generalize w1.alloc (.cells Y 64)=W2 at*;clear j t u F;generalize w1.heap.size=gp at*
 go_loopg [10] (n+1) (λg ix wr=>∃(k:Nat),k<=n/\n<g+k/\ix=.int .i64 k/\xj (tc m) wr 64 gp n (uh [] MM n k)/\Below w.heap.size w wr/\zh wr w.heap.size 28 #[.slice A n c,.int .i64 (m:Int)])
 case atStart=>exact⟨0,qN _,zb,rfl,a,hB,hK⟩
 case round=>
  clear a hB hK;obtain⟨i,hkn,hg,rfl,a,hB,hK⟩:=hrel;by_cases hlt:i<n
  ·have N:decide ((i:Int)<(n:Int))=true:=decide_eq_true zb;have i1:(0:Int)<=(i:Int):=zb;have i2:(i:Int)<(n:Int):=zb;obtain⟨g0,g1⟩:=hK.c2;have o:=za a;have d:=za hB;have C:=za hK;have B:=za (HG.o i hlt);clear a hB hK;go_wp2_with fail;(with_reducible refine(UN (HT.o _ d.o) (HM.o _ d.o) HZ.o hlt).mono ?_);rintro eo w5 ⟨g5,rfl,hg5,G,hb⟩;clear g0 g1;have v:=o.o.below (iF m) hb;have y:=xj.set_ (iF m) v hlt ⟨xw G,λe=>e⟩ (J.o i hlt);rw [mT [] MM n i D.o hlt _ B.o] at y;obtain⟨q0,sc0,sf0⟩:=v.ready hlt;have M:=za y;have H:=za (zz (p:=⟨gp,i,none⟩) (.slice (some ⟨g5,0,none⟩) m m) (show w.heap.size<=gp by omega) (zc d.o hb));have I:=za (zh.far (p:=⟨gp,i,none⟩) (zf hb C.o) (by show w.heap.size≠gp;omega) (.slice (some ⟨g5,0,none⟩) m m));clear v y G hb o d C B;go_wp2;go_roundg (n - i)
   case measure=>omega
   case rel=>exact⟨i+1,zb,zb,by go_num,M.o,H.o,I.o⟩
  ·have O:i=n:=zb;subst O;have N:decide ((i:Int)<(i:Int))=false:=zE;have L:=za (mS [] MM i D.o▸a);have d:=za hB;clear a hB hK;go_wp2;go_ret;exact⟨gp,rfl,zb,L.o,d.o⟩
end
def oM (n:Nat)(X:List (List Rat))(r:Nat):List (List Rat):=X.mapIdx λi row=>if i<r then row.drop n else row
theorem RJ (n:Nat)(X:List (List Rat)):oM n X 0=X:=by
 unfold oM;apply List.ext_getElem?;intro i;rw [List.getElem?_mapIdx];cases X[i]?<;>rfl
theorem sZ {n:Nat}{r:Nat}(hr:r<X.length):(oM n X r)[r]?=some (X.getD r []):=by
 unfold oM;rw [List.getElem?_mapIdx,qX hr];show some (if r<r then _ else _)=_;rw [if_neg zb,show X.getD r []=X[r] by rw [qQ,qX hr];rfl]
theorem QF {r:Nat}(hr:r<X.length):(oM n X r).set r ((X.getD r []).drop n)=oM n X (r+1):=by
 apply List.ext_getElem?;intro i;unfold oM;rw [List.getElem?_mapIdx,List.getElem?_set];by_cases e:r=i
 ·subst e;rw [if_pos rfl,if_pos (by rw [List.length_mapIdx];exact hr),qX hr];dsimp only [Option.map_some];rw [if_pos zb,show X.getD r []=X[r] by rw [qQ,qX hr];rfl]
 ·rw [if_neg e,List.getElem?_mapIdx];cases X[i]? with
  |none=>rfl
  |some row=>
    dsimp only [Option.map_some];by_cases e2:i<r
    ·rw [if_pos e2,if_pos zb]
    ·rw [if_neg e2,if_neg zb]
theorem Qz {n:Nat}{X:List (List Rat)}:oM n X X.length=X.map (List.drop n):=by
 apply List.ext_getElem?;intro i;unfold oM;rw [List.getElem?_mapIdx,QQ];cases h:X[i]? with
 |none=>rfl
 |some row=>
   have:=(List.getElem?_eq_some_iff.1 h).1;show some (if i<X.length then _ else _)=_;rw [if_pos this];rfl
theorem zU.some_ {B:ze}(h:zU w B n d xs)(hn:0<n):∃p,B=some p:=by
 obtain⟨ad,_,_,_,_,_,_,_,e,_⟩:=h.num 0 _ (qX (by rw [h.len];exact hn));exact⟨ad,e⟩
def aT (w:World)(n:Nat)(X:List (List Rat))(t:Bool)(eo:Ending)(w':World):Prop:=if t=true then iw w n n (tt n X) eo w' else Wb w eo w'
section
variable {w:World}{A:ze}{n c m K K0:Nat}{X:List (List Rat)}
theorem Vy (t:Bool)(ht:decide ((xv n X).ld.length<n)= !t)(hT:zu w)(h:yF w A n c n X)(z:zV K0 X)(hW:wN K (wv n X))(hK:260*K+269<=33554432:=by omega)(bo:K+K0<=33554432:=by omega)(bp:0<K:=by omega)(bq:0<K0:=by omega):
  Calls prog 12 #[.agg #[.slice A n c,.int .i64 (n:Int)]] w (aT w n X t):=by
 obtain⟨hn,-⟩:=And.intro h.hn h.hm;have HM:=zj w (λw' hb=>h.keep hb);have HT:=zj w (λw' hb=>hT.on hb);have HZ:=za z;have bn:=za (V3 z bq (n:=n));have HW:=za hW;have HD:=za (it h.dims);have bj:=za h.dims;have ah:zd (X.length=n):=h.dims.rows;obtain⟨s1,s2,s3,s4⟩:=Ta h.dims hn hW;have a1:=za s1;have a2:=za s2;have a3:=za s3;have a4:=za s4;have av:=za (PP h.dims);have ae:=za (jO h.dims).dims;have Q:zd (tt n X=(vX (xv n X).p⁻¹ (xv n X).S).map (List.drop n)):=rfl;have a5:=za ht;obtain⟨a7,ai,a8,-⟩:=zX w 28 28 #[.slice A n c,.int .i64 (n:Int)] #[.slice none 0 0,.int .i64 0];obtain⟨p0,p1⟩:=ai.c2;have HB:=za a7;have g:=za ai;have a:=za a8;have d1:((n:Int) !=(n:Int))=false:=zE;have au:tO n (x4 (wv n X))=xv n X:=rfl;obtain⟨st,ab⟩:∃st,xv n X=st:=⟨_,rfl⟩;rw [ab] at au a2 a3 a4 ae Q a5;obtain⟨IM,ak⟩:∃IM,tt n X=IM:=⟨_,rfl⟩;have aw:zd (∀eo w',(if t=true then iw w n n IM eo w' else Wb w eo w')->aT w n X t eo w'):=λeo w' h=>by unfold aT;rw [ak];exact h
 rw [ak] at Q a1 av;have bm:=za au;clear h hT z hW a7 ai a8 au ab s1 s2 s3 s4 ht ak;go_enter func12,ntmps12;go_wp2_with fail;generalize (w.alloc (.cells #[.slice A n c,.int .i64 (n:Int)] 28)).alloc (.cells #[.slice none 0 0,.int .i64 0] 28)=W1 at*;have y:=(qZ W1.heap.size W1).drew;refine rg (zl p0 (zl p1 zJ)) (λhHeld=>?_);have HB:=za (zc HB.o y);have g:=za (zf y g.o);have a:=za (zf y a.o);clear p0 p1 y;generalize W1.drew=D at*;refine tk 0 ?_;refine tk 2 ?_;refine rc 1 (λKK G=>?_);go_simp;refine(oE A n c (n:Int) _).mono ?_;rintro eo w2 ⟨rfl,hb⟩;refine G.out _ _ (Cs.below hHeld hb) (λhHeld=>?_);have HB:=za (zc HB.o hb);have g:=za (zf hb g.o);have a:=za (zf hb a.o);clear G KK hb;refine rc 3 (λKK G=>?_);go_simp;refine(uP A n c (n:Int) _).mono ?_;rintro eo w3 ⟨rfl,hb⟩;refine G.out _ _ (Cs.below hHeld hb) (λhHeld=>?_);have HB:=za (zc HB.o hb);have g:=za (zf hb g.o);have a:=za (zf hb a.o);clear G KK hb;refine tk 4 ?_;refine zT ?_;clear hHeld;obtain⟨p0,p1⟩:=g.o.c2;go_wp2_with fail;clear p0 p1;(with_reducible refine(TE (HT.o _ HB.o) (HM.o _ HB.o) HZ.o zb).mono ?_);rintro eo w4 ⟨g4,rfl,br,ap,hb⟩;have hB:=zc HB.o hb;have o:=zf hb g.o;have s:=zf hb a.o;have hg4':w.heap.size+1<g4:=by have:=a.o.lt;omega
 rw [<-SM n X] at ap;clear hb HB g a br;go_wp2_with fail
 go_loopg [21] (n+1) (λgg ix wr=>∃(k:Nat),k<=n/\n<gg+k/\ix=.int .i64 k/\xj (tc n) wr 64 g4 n (tM n X k)/\Below w.heap.size w wr/\zh wr w.heap.size 28 #[.slice A n c,.int .i64 (n:Int)]/\zh wr (w.heap.size+1) 28 #[.slice none 0 0,.int .i64 0])
 case atStart=>exact⟨0,qN _,zb,rfl,ap,hB,o,s⟩
 case round=>
  clear ap hB o s;obtain⟨i,hkn,hg,rfl,j,hB,o,s⟩:=hrel;by_cases hlt:i<n
  ·have d2:decide ((i:Int)<(n:Int))=true:=decide_eq_true zb;have i1:(0:Int)<=(i:Int):=zb;have i2:(i:Int)<(n:Int):=zb;have u:=za j;have HB:=za hB;have g:=za o;have a:=za s;clear j hB o s;go_wp2_with fail;(with_reducible refine(Ub n i _ (HT.o _ HB.o) hn hlt).mono ?_);rintro eo w5 ⟨g5,rfl,hg5,be,hb⟩;have j:=u.o.below (iF n) hb;have HB:=za (zc HB.o hb);have g:=za (zf hb g.o);have a:=za (zf hb a.o);have a9:(tM n X i)[i]?=some (X.getD i []):=by
    have e:=bE (n:=n) (X:=X) (r:=i) (i:=i) (by rw [ah.o];exact hlt);rw [if_neg zb] at e;rw [<-e];exact vY (by rw [bD,ah.o];exact hlt)
   obtain⟨B,d,P,C,T⟩:=j.num i _ a9;rw [bj.o.row hlt] at P C T;have T:d=n:=T rfl;subst T;obtain⟨p,rfl⟩:=C.some_ zb;have u:=za j;have N:=za C;have a6:=za (xw be);clear hb j C be a9;go_wp2_with (at_builtin;go_loud (refine Tw rfl (.tmp 36) (.tmp 37) 64 rfl underlying64 p ⟨g5,0,none⟩ d d d (X.getD i []) (uV d i) rfl rfl N.o a6.o zb zb ?_;intro c9 w6 bg al;have H:=u.o.below (iF d) al;obtain⟨q0,V,Y⟩:=H.ready hlt;have R:=za H;have ag:=za bg;have J:=za al;clear H bg al));have ar:=xj.set_ (iF d) R.o hlt (L:=iP d (X.getD i []) i) (m:=d+d) ⟨ag.o,λe=>by omega⟩ ag.o.len;rw [Qm (by rw [ah.o];exact hlt)] at ar;have bl:=za ar;have bh:=za (zz (p:=⟨g4,i,none⟩) (.slice (some ⟨w5.heap.size,0,none⟩) (d+d) c9) (show w.heap.size<=g4 by omega) (zc HB.o J.o));have ay:=za (zh.far (p:=⟨g4,i,none⟩) (zf J.o g.o) (by show w.heap.size≠g4;omega) (.slice (some ⟨w5.heap.size,0,none⟩) (d+d) c9));have a0:=za (zh.far (p:=⟨g4,i,none⟩) (zf J.o a.o) (by show w.heap.size+1≠g4;omega) (.slice (some ⟨w5.heap.size,0,none⟩) (d+d) c9));clear ar u N a6 R ag J P V Y HB g a;go_wp2;go_roundg (d - i)
   case measure=>omega
   case rel=>exact⟨i+1,zb,zb,by go_num,bl.o,bh.o,ay.o,a0.o⟩
  ·have an:i=n:=zb;subst an;have d2:decide ((i:Int)<(i:Int))=false:=zE;have HR:zd (y5 (zY zo) wr (some ⟨g4,0,none⟩) i (wv i X)):=(j.wider (R':=zY zo) λx=>x.1).rows;have HB:=za hB;have g:=za o;have a:=za s;obtain⟨p0,p1⟩:=o.c2;clear j hB o s;go_wp2_with fail;clear p0 p1;refine(uP A i c (i:Int) _).mono ?_;rintro eo w7 ⟨rfl,hb⟩;have HB:=za (zc HB.o hb);have g:=za (zf hb g.o);have a:=za (zf hb a.o);have HR:=za (HR.o.below (zN zS) hb);clear hb;go_wp2_with fail;(with_reducible refine(bP (HT.o _ HB.o) HR.o HD.o bn.o HW.o hn zb zb hK bo bp).mono ?_);rintro eo w8 ⟨g8,rfl,bs,⟨A8,cA8,B8,k8,cB8,z0,z1,z2,u0,u1,u2,am⟩,hb⟩;rw [bm.o] at am;have HB:=za (zc HB.o hb);have g:=za (zf hb g.o);have a:=za (zf hb a.o);have E:=za am;clear hb am HR bs;go_upto_region 11 with fail;have y:=(qZ w8.heap.size w8).drew;obtain⟨p0,p1⟩:=g.o.c2;obtain⟨-,p2,-⟩:=E.o.cells;refine rg (zl p0 (zl p1 (zl p2 zJ))) (λhHeld=>?_);have HB:=za (zc HB.o y);have E:=za (E.o.below y);have g:=za (zf y g.o);have a:=za (zf y a.o);clear p0 p1 p2 y;generalize w8.drew=D8 at*;refine tk 0 ?_;refine tk 1 ?_;refine tk 2 ?_;refine tk 3 ?_;refine tk 4 ?_;refine tk 5 ?_;refine rc 6 (λKK G=>?_);go_simp;refine(oE A i c (i:Int) _).mono ?_;rintro eo w9 ⟨rfl,hb⟩;refine G.out _ _ (Cs.below hHeld hb) (λhHeld=>?_);have HB:=za (zc HB.o hb);have E:=za (E.o.below hb);have g:=za (zf hb g.o);have a:=za (zf hb a.o);clear G KK hb;refine tk 7 ?_;refine zT ?_;clear hHeld;have U:decide ((k8:Int)<(i:Int))= !t:=by
    rw [<-a5.o,E.o.hk];by_cases e:k8<i
    ·rw [decide_eq_true e,decide_eq_true zb]
    ·rw [decide_eq_false e,decide_eq_false zb]
   cases t
   ·have d3:decide ((k8:Int)<(i:Int))=true:=U;have bc:k8<i:=by have:=of_decide_eq_true d3;omega
    clear U;obtain⟨V,Y,bt,bu⟩:=wS a.o (.slice none 0 0);obtain⟨r0,r1⟩:=(wR a.o (.slice none 0 0) (.int .i64 0)).c2;have bi:=za (tA (.slice none 0 0) (.int .i64 0) (show w.heap.size<=w.heap.size+1 by omega) HB.o);clear HB a;go_wp2;refine bodyPost_ret (v:=.tuple #[.agg #[.slice none 0 0,.int .i64 0],.bool false]) (by simp [results,results12,go_sem,r0,r1]) rfl ?_;exact aw.out _ _ ⟨rfl,bi.o⟩
   ·have d3:decide ((k8:Int)<(i:Int))=false:=U;have bc:¬(k8<i):=by have:=of_decide_eq_false d3;omega
    clear U;go_upto_region 13 with fail;go_wp2_with fail;(with_reducible refine(Yq (HT.o _ HB.o) E.o ae.o a4.o a2.o a3.o hn zb zb).mono ?_);rintro eo w10 ⟨F,rfl,bb,I,hb⟩;have hB:=zc HB.o hb;have o:=zf hb g.o;have s:=zf hb a.o;have hg10':w.heap.size+1<F:=by have:=a.o.lt;omega
    have M:=za (fW ae.o st.p⁻¹);obtain⟨RM,ba⟩:∃RM,vX st.p⁻¹ st.S=RM:=⟨_,rfl⟩;rw [ba] at I Q M;have af:zd (RM.length=i):=M.o.rows;obtain⟨m2,ao⟩:∃m2,i+i=m2:=⟨_,rfl⟩;have bk:=za ao;rw [ao] at M;rw [<-RJ i RM] at I;clear hb HB g a bb E ba ao;go_wp2_with fail
    go_loopg [58] (i+1) (λgg ix wr=>∃(k:Nat),k<=i/\i<gg+k/\ix=.int .i64 k/\xj (zY zo) wr 64 F i (oM i RM k)/\Below w.heap.size w wr/\zh wr w.heap.size 28 #[.slice A i c,.int .i64 (i:Int)]/\zh wr (w.heap.size+1) 28 #[.slice none 0 0,.int .i64 0])
    case atStart=>exact⟨0,qN _,zb,rfl,I,hB,o,s⟩
    case round=>
     clear I hB o s;obtain⟨k,hkn2,hg2,rfl,j,hB,o,s⟩:=hrel;by_cases hlt:k<i
     ·have d4:decide ((k:Int)<(i:Int))=true:=decide_eq_true zb;have i1:(0:Int)<=(k:Int):=zb;have i2:(k:Int)<(i:Int):=zb;obtain⟨B,d,P,C⟩:=j.num k _ (sZ (n:=i) (by rw [af.o];exact hlt));rw [M.o.row hlt] at P C;have bd:i<m2:=by have:=bk.o;omega
      obtain⟨p,rfl⟩:=zU.some_ C zb;have hdm:m2<=d:=C.fits;have e1:¬(d=i):=zb;have e2:(0:Int)<=(i:Int):=zb;have e3:(i:Int)<=(m2:Int):=zb;have e4:(m2:Int)<=(d:Int):=zb;have e5:(i:Int)<=(d:Int):=zb;obtain⟨p0,p1⟩:=o.c2;have u:=za j;have N:=za C;have HB:=za hB;have g:=za o;have a:=za s;clear j hB o s C;go_wp2_with fail;clear p0 p1;refine(uP A i c (i:Int) _).mono ?_;rintro eo w11 ⟨rfl,hb⟩;have aq:=u.o.below (zN zS) hb;have bf:=zU.keep N.o hb;have H:=xj.set_ (zN zS) aq hlt (zU.rest bf (QD bd)) (by rw [XX,M.o.row hlt]);rw [QF (by rw [af.o];exact hlt)] at H;obtain⟨q0,V,Y⟩:=aq.ready hlt;have R:=za H;have J:=za (zz (p:=⟨F,k,none⟩) (.slice (some (p.add (i*3))) (m2 - i) (d - i)) (show w.heap.size<=F by omega) (zc HB.o hb));have ax:=za (zh.far (p:=⟨F,k,none⟩) (zf hb g.o) (by show w.heap.size≠F;omega) (.slice (some (p.add (i*3))) (m2 - i) (d - i)));have az:=za (zh.far (p:=⟨F,k,none⟩) (zf hb a.o) (by show w.heap.size+1≠F;omega) (.slice (some (p.add (i*3))) (m2 - i) (d - i)));clear aq H bf hb u N HB g a P;go_wp2;go_roundg (i - k)
      case measure=>omega
      case rel=>exact⟨k+1,zb,zb,by go_num,R.o,J.o,ax.o,az.o⟩
     ·have an:k=i:=zb;subst an;have d4:decide ((k:Int)<(k:Int))=false:=zE;have O:=Qz (n:=k) (X:=RM);rw [af.o,<-Q.o] at O;rw [O] at j;have HR:=za j.rows;have HB:=za hB;have g:=za o;have a:=za s;obtain⟨p0,p1⟩:=o.c2;clear j hB o s O;go_wp2_with fail;clear p0 p1;refine(uP A k c (k:Int) _).mono ?_;rintro eo w12 ⟨rfl,hb⟩;have HB:=za (zc HB.o hb);have a:=za (zf hb a.o);have HR:=za (HR.o.below (zN zS) hb);clear hb g;go_wp2_with fail;(with_reducible refine(fG (HT.o _ HB.o) HR.o av.o hn hn a1.o zb).mono ?_);rintro eo w13 ⟨ac,aj,rfl,aa,Z,hb⟩;have hlt2:=a.o.lt;have HB:=za (zc HB.o hb);have a:=za (zf hb a.o);obtain⟨V,Y,bt,bu⟩:=wS a.o (.slice ac k aj);obtain⟨r0,r1⟩:=(wR a.o (.slice ac k aj) (.int .i64 (k:Int))).c2;have HG:=za (kV aa (λad e=>by have:=Z ad e;show w.heap.size+1<ad.block;omega) a.o HB.o (show w.heap.size<=w.heap.size+1 by omega));clear hb aa Z HB a HR;go_wp2;refine bodyPost_ret (v:=.tuple #[.agg #[.slice ac k aj,.int .i64 (k:Int)],.bool true]) (by simp [results,results12,go_sem,r0,r1]) rfl ?_;exact aw.out _ _ HG.o
end
open Go Go.RowKit Go.Proofs.Tryz
set_option maxHeartbeats 16000000
theorem Pw (h:zM X n n){t:Bool}(e:(!decide (ub n X=0))=t):decide ((xv n X).ld.length<n)= !t:=by
 rw [<-e,Bool.not_not,UB h];exact decide_eq_decide.2 (Px h)
theorem Y4 (h:zM X n n)(hn:n<=6)(z:zV 1 X):wN 14 (wv n X):=by
 have:=wN.of_sz (V3 z (qY 1) (n:=n)) (it h);exact this.up zb
theorem nE (h:zM X n n)(hn:n<=6)(z:zV 1 X):zV 1954 (tt n X):=(Ta h zb (Y4 h hn z)).1.up zb
open Go Go.RowKit Go.Proofs.Tryz
set_option maxHeartbeats 16000000
set_option maxRecDepth 100000
theorem aG {α:Type}{L:List α}{x:α}(h:L[k]?=some x):L.take (k+1)=L.take k++[x]:=by
 have a:=(List.getElem?_eq_some_iff.1 h).1;rw [qE a];congr 1;rw [qX a] at h;injection h with h;rw [h]
theorem sY (h:k<n):(um n M c)[k]?=some (zv M k c):=by
 unfold um;rw [QQ,xW h];rfl
theorem VW {A:ze}{m:Nat}(h:yz w A n c m M)(hj:j<m):
  Calls prog 143 #[.agg #[.slice A n c,.int .i64 (m:Int)],.int .i64 (j:Int)] w (Zx w n (um n M j)):=by
 obtain⟨ac,ab,N,O,P⟩:=info_parts UK;have hn0:n<=64:=h.hn;have hm0:m<=64:=h.hm;have HS:zd (∀k,k<n->(um n M j).take (k+1)=(um n M j).take k++[zv M k j]):=λk hk=>aG (sY hk);have HL:zd ((um n M j).length=n):=fv n M j;obtain⟨C,hC⟩:∃C,um n M j=C:=⟨_,rfl⟩;rw [hC] at HS HL⊢;obtain⟨D,E,bz⟩:=zw w 33 #[.slice A n c,.int .i64 (m:Int)];have HM:=za (h.keep D);obtain⟨g0,g1⟩:=E.c2;have Q:=za D;have HK:=za E;have i3:(0:Int)<=(j:Int):=zb;have i4:(j:Int)<(m:Int):=zb;unfold Zx;clear h hC D E bz;go_enter func143,ntmps143;go_wp2_with fail;generalize w.alloc (.cells #[.slice A n c,.int .i64 (m:Int)] 33)=W1 at*;have hB:=qZ W1.heap.size W1;clear g0 g1
 go_loopg [5,6] (n+1) (λg sl ix wr=>∃(k:Nat) (v:Value) (vs:List Value),k<=n/\n<g+k/\ix=.int .i64 k/\v=sl/\wH y4 wr W1.heap.size 49 v (C.take k) vs/\Below W1.heap.size W1 wr)
 case atStart=>exact⟨0,_,_,qN _,zb,rfl,rfl,wH.nil _ _ _,hB⟩
 case round=>
  clear hB;obtain⟨k,v,vs,hkn,hg,rfl,rfl,s,hB⟩:=hrel;obtain⟨g0,g1⟩:=(zf hB HK.o).c2;by_cases hlt:k<n
  ·obtain⟨ad,B,d,rfl,-,hc0,ae,b1,B1,m1,d1,E1,u1,v1,rfl,-,hc1,hc2,hc3,hq⟩:=HM.o.place hB hlt hj;have X:=za (HS.o k hlt);have aa:decide ((k:Int)<(n:Int))=true:=decide_eq_true zb;have K:decide (k<n)=true:=decide_eq_true hlt;have i1:(0:Int)<=(k:Int):=zb;have i2:(k:Int)<(n:Int):=zb;have L:(C.take k).length=k:=by rw [qB,HL.o];omega
   have G:=za L;obtain⟨t1,t2,-⟩:=zw wr 49 #[.bool b1,.slice B1 m1 d1,.slice E1 u1 v1];have a:=wH.below xu s t1;have HX:=za (y4.below hq t1);have HB:=za (zc hB t1);have z:=za (Xp t2);have I:=za (Ue b1 B1 E1 m1 d1 u1 v1);have T:=za (VF b1 B1 E1 m1 d1 u1 v1);have Y:=za WW;have F:=za HB.o.size;have t:=a.own;rw [G.o] at t;have J:=za t;have H:=za a.nou;have U:=za (λr (h:v.ownBlock=some r)=>a.own.lt r h);have V:=za a;clear s a hq hB t1 t2 t L;go_upto_region 5 with fail;go_wp2_with (at_builtin;go_loud (refine Z6 _ rfl (.tmp 14) (.tmp 23) 79 rfl W1.heap.size 49 ac (.agg #[.bool false,.slice none 0 0,.slice none 0 0]) 3 56 underlying79 ab N O P rfl zg v k vs rfl J.o ⟨wr.heap.size,0,none⟩ 1 1 [.bool b1,.slice B1 m1 d1,.slice E1 u1 v1] rfl rfl z.o I.o (by unfold maxLen;omega) zb F.o H.o Y.o T.o ?_;intro v' w8 u i Z o;have y:=za (wH.grow (n:=k+1) xu V.o HX.o u (by rw [G.o]) i o);have S:=za (HB.o.grown i F.o (λr hr=>(U.o r hr).1));clear u i Z o));rw [<-X.o] at y;go_roundg (n - k)
   case measure=>omega
   case rel=>exact⟨k+1,_,_,zb,zb,by go_num,rfl,y.o,S.o⟩
  ·have hk:k=n:=zb;subst hk;have aa:decide ((k:Int)<(k:Int))=false:=zE;have K:decide (k<k)=false:=zE;rw [qU (by rw [HL.o];exact qY _)] at s;obtain⟨A1,c1,rfl,hv,hf⟩:=s.shape;rw [HL.o] at hv⊢;have HV:=za hv;have R:=za (zc Q.o hB);clear s hv hB hf;go_wp2;go_ret;exact⟨A1,c1,rfl,HV.o,R.o⟩
