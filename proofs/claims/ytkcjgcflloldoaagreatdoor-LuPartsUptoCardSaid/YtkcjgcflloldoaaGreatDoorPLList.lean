/- What this claim leans on. -/
import Derived.Test.YtkcjgcflloldoaaGreatDoorPLMath
import Derived.Laws.Append
import Derived.Laws.CopyRow
set_option linter.unusedVariables false
set_option linter.unusedSimpArgs false
namespace Go.Proofs.YtkcjgcflloldoaaGreatDoor
open Go Go.RowKit Go.Proofs.Tryz
set_option maxHeartbeats 16000000
variable {ad:Addr}{cs ds:Array Value}{M S:List (List Rat)}{ld qs:List Nat}{L by_:List Rat}{vs:List Value}{K a c g gc h i j m n:Nat}{p:Rat}{s t:TypeId}{v:Value}{w w':World}
structure xh where
 S:List (List Rat)
 T:List Rat
 P:List Nat
 rd:Rat
def yy {α:Type}(d:α)(r q:Nat)(L:List α):List α:=(L.set r (L.getD q d)).set q (L.getD r d)
theorem oX {α:Type}(d:α)(r q:Nat)(L:List α):(yy d r q L).length=L.length:=by unfold yy;rw [QV,QV]
theorem gj {α:Type}(d:α){r q:Nat}{L:List α}(hr:r<L.length)(hq:q<L.length)(i:Nat):(yy d r q L).getD i d=if i=r then L.getD q d else if i=q then L.getD r d else L.getD i d:=by
 unfold yy;rw [qQ,List.getElem?_set,List.getElem?_set];by_cases e1:i=r
 ·rw [if_pos e1];by_cases e2:q=i
  ·rw [if_pos e2,if_pos (by rw [QV];omega),show q=r by omega];rfl
  ·rw [if_neg e2,if_pos e1.symm,if_pos za];rfl
 ·rw [if_neg e1];by_cases e2:i=q
  ·rw [if_pos e2,if_pos e2.symm,if_pos (by rw [QV];omega)];rfl
  ·rw [if_neg e2,if_neg (Ne.symm e2),if_neg (Ne.symm e1),<-qQ]
theorem Xo {α:Type}(d:α){r q:Nat}{L:List α}(hr:r<L.length)(hq:q<L.length):(yy d r q L).Perm L:=by
 unfold yy;rw [show L.getD q d=L[q] by rw [qQ,qY hq];rfl,show L.getD r d=L[r] by rw [qQ,qY hr];rfl];exact List.set_set_perm hr hq
def wI (c:Nat)(e:xh):Nat:=(e.S.drop c).findIdx λrow=> !decide (row.getD c 0=0)
def o7 (c:Nat)(e:xh):xh:=if wI c e=0 then e else⟨yy [] c (c+wI c e) e.S,yy 0 c (c+wI c e) e.T,yy 0 c (c+wI c e) e.P,-e.rd⟩
def uL (c:Nat)(p:Rat)(row by_:List Rat):List Rat:=row.take (c+1)++zT p⁻¹ (uN (zT (by_.getD c 0) (row.drop (c+1))) (-row.getD c 0) (by_.drop (c+1)))
def vk (c:Nat)(S:List (List Rat)):List (List Rat):=S.mapIdx λi row=>if c<i then uL c (zK (zn S) c) row (S.getD c []) else row
def fI (c:Nat)(e:xh):xh:={o7 c e with S:=vk c (o7 c e).S}
def sN (M:List (List Rat)):xh:=⟨vN M,M.map zM,List.range M.length,uj M⟩
def xt (M:List (List Rat))(c:Nat):xh:=(List.range c).foldl (λe c=>fI c e) (sN M)
theorem Tn (M:List (List Rat))(c:Nat):xt M (c+1)=fI c (xt M c):=by
 unfold xt;rw [YK,YJ];rfl
def aF (M:List (List Rat))(e:xh):Nat->Nat->Rat:=λi j=>e.T.getD i 0*zn M (e.P.getD i 0) j
structure y4 (n c K:Nat)(M:List (List Rat))(e:xh):Prop where
 dims:zQ e.S n n
 tl:e.T.length=n
 perm:e.P.Perm (List.range n)
 tq:∀i,i<n->e.T.getD i 0=zM (M.getD (e.P.getD i 0) [])
 inv:wY n c (aF M e) (zn e.S)
 sz:vn n n c (aF M e) (zn e.S)
 li:∀i,i<n->∀j,j<n->LI (67+65*K) (zn e.S i j)
 det:zD n (aF M e)=e.rd*zD n (zn M)
 rd:e.rd=uj M\/e.rd= -uj M
theorem y4.pl {e:xh}(h:y4 n c K M e):e.P.length=n:=by rw [h.perm.length_eq,XS]
theorem y4.pn {e:xh}(h:y4 n c K M e){i:Nat}(hi:i<n):e.P.getD i 0<n:=by
 have:e.P.getD i 0 ∈ List.range n:=h.perm.mem_iff.1 (jl (by rw [h.pl];exact hi));exact List.mem_range.1 this
theorem y4.tne {e:xh}(h:y4 n c K M e){i:Nat}(hi:i<n):e.T.getD i 0≠0:=by rw [h.tq i hi];exact Zg (by decide+kernel)
theorem y4.rne {e:xh}(h:y4 n c K M e):e.rd≠0:=by
 have:=Oj M;rcases h.rd with e1|e1<;>rw [e1]<;>grind
theorem T1 (hM:zQ M n m){i:Nat}(hi:i<n):M.getD i [] ∈ M:=QY (vi (by have:=hM.rows;omega))
theorem y4.tli {e:xh}(h:y4 n c K M e)(hM:zQ M n n)(hW:xm K M){i:Nat}(hi:i<n):LI K (e.T.getD i 0):=by
 rw [h.tq i hi];exact hW.q _ (T1 hM (h.pn hi))
theorem y4.ali {e:xh}(h:y4 n c K M e)(hM:zQ M n n)(hW:xm K M):∀i,i<n->∀j,j<n->LI K (aF M e i j):=λi hi j hj=>by
 unfold aF;rw [h.tq i hi];refine hW.x _ (T1 hM (h.pn hi)) _ ?_;unfold zn;have:=hM.row (h.pn hi);exact QY (vi (d:=0) za)
theorem y4.start (hM:zQ M n n)(hn:n<=64)(hW:xm K M):y4 n 0 K M (sN M):=by
 have hl:=hM.rows;have ha:∀i,i<n->∀j,aF M (sN M) i j=zn (vN M) i j:=λi hi j=>by
  unfold aF sN;rw [Y5 hM hi];have q1:(M.map zM).getD i 0=zM (M.getD i []):=by rw [qQ,qW,vi (d:=[]) za];rfl
  have q2:(List.range M.length).getD i 0=i:=by rw [qQ,xD za];rfl
  show(M.map zM).getD i 0*zn M ((List.range M.length).getD i 0) j=_;rw [q1,q2]
 have hp:∀i,i<n->(sN M).P.getD i 0=i:=λi hi=>by
  show(List.range M.length).getD i 0=i;rw [qQ,xD za];rfl
 have h0:wY n 0 (aF M (sN M)) (zn (vN M)):=by
  have:=wY.start n (zn (vN M));exact⟨this.cn,this.ne,λi hi j hj=>by rw [ha i hi j];exact this.eq i hi j hj⟩
 have h1:vn n n 0 (aF M (sN M)) (zn (vN M)):=by
  refine⟨aF M (sN M),wj.start n n _,λi _ hi j _ _=>ha i hi j⟩
 refine⟨Q3 hM,by show(M.map zM).length=n;rw [QP];exact hl,by show(List.range M.length).Perm _;rw [hl],λi hi=>?_,h0,h1,λi hi j hj=>(hW.at_ hM i hi j hj).up za,?_,Or.inl rfl⟩
 ·rw [hp i hi];show(M.map zM).getD i 0=_;rw [qQ,qW,vi (d:=[]) za];rfl
 ·rw [uz λi hi j _=>ha i hi j];exact N8 hM
theorem Qq {e:xh}(h:¬ wI c e<e.S.length - c){i:Nat}(h1:c<=i)(h2:i<e.S.length):zn e.S i c=0:=by
 have hl:(e.S.drop c).length=e.S.length - c:=xK;have:=List.not_of_lt_findIdx (p:=λrow:List Rat=> !decide (row.getD c 0=0)) (xs:=e.S.drop c) (i:=i - c) (by show _<wI c e;omega);rw [bQ za,show c+(i - c)=i by omega] at this;simpa [zn] using this
theorem Qr {c:Nat}{e:xh}(h:wI c e<e.S.length - c):zn e.S (c+wI c e) c≠0:=by
 have hl:(e.S.drop c).length=e.S.length - c:=xK;have:=List.findIdx_getElem (p:=λrow:List Rat=> !decide (row.getD c 0=0)) (xs:=e.S.drop c) (w:=by show wI c e<_;omega);rw [bQ (by show wI c e<_;omega)] at this;simpa [zn,wI] using this
theorem qr {r q:Nat}(h:zQ S n m)(hr:r<n)(hq:q<n):zQ (yy [] r q S) n m:=by
 refine⟨by rw [oX];exact h.rows,λL hL=>?_⟩;exact h.cols L ((Xo [] (by rw [h.rows];exact hr) (by rw [h.rows];exact hq)).mem_iff.1 hL)
theorem ml {r q:Nat}(hr:r<S.length)(hq:q<S.length):zn (yy [] r q S)=yo r q (zn S):=by
 funext i j
 unfold zn yo;rw [gj [] hr hq]
 split
 ·rfl
 ·split<;>rfl
theorem lX {r q:Nat}(h1:r<q)(h2:q<n)(a:Nat->Nat->Rat):zD n (yo r q a)= -zD n a:=by
 have e1:yo r q a=yd (yd a r (a q)) q (a r):=by
  funext i j
  unfold yo yd;by_cases e:i=r
  ·rw [if_pos e,if_neg za,if_pos e]
  ·rw [if_neg e];by_cases e2:i=q
   ·rw [if_pos e2,if_pos e2]
   ·rw [if_neg e2,if_neg e2,if_neg e]
 have e2:yd (yd a r (a r)) q (a q)=a:=by rw [UE,UE]
 rw [e1,kY za h2 za (λM hM=>dY h1 h2 hM) a (a q) (a r),e2]
theorem y4.pick {e:xh}(h:y4 n c K M e)(hb:wI c e<n - c):y4 n c K M (o7 c e)/\zn (o7 c e).S c c≠0:=by
 have hr:=h.dims.rows;have d:=Qr (c:=c) (e:=e) (by rw [hr];exact hb);unfold o7;by_cases h0:wI c e=0
 ·rw [if_pos h0];rw [h0,XX] at d;exact⟨h,d⟩
 ·rw [if_neg h0];have hq:c+wI c e<n:=za;have hc:c<n:=za;have a:c<c+wI c e:=za;generalize c+wI c e=q at*;have g:=h.tl;have hpl:=h.pl;have ea:aF M ⟨yy [] c q e.S,yy 0 c q e.T,yy 0 c q e.P,-e.rd⟩=yo c q (aF M e):=by
   funext i j
   unfold aF yo;show(yy 0 c q e.T).getD i 0*zn M ((yy 0 c q e.P).getD i 0) j=_;rw [gj 0 za za,gj 0 za za]
   split
   ·rfl
   ·split<;>rfl
  have es:zn (yy [] c q e.S)=yo c q (zn e.S):=ml za za;refine⟨⟨qr h.dims hc hq,by show(yy 0 c q e.T).length=n;rw [oX];exact g,(Xo 0 za za).trans h.perm,λi hi=>?_,?_,?_,λi hi j hj=>?_,?_,?_⟩,?_⟩
  ·show(yy 0 c q e.T).getD i 0=zM (M.getD ((yy 0 c q e.P).getD i 0) []);rw [gj 0 za za,gj 0 za za]
   split
   ·exact h.tq q hq
   ·split
    ·exact h.tq c hc
    ·exact h.tq i hi
  ·rw [ea];show wY n c _ (zn (yy [] c q e.S));rw [es];exact h.inv.xch_ a hq
  ·rw [ea];show vn n n c _ (zn (yy [] c q e.S));rw [es];exact h.sz.xch_ a hq
  ·show LI _ (zn (yy [] c q e.S) i j);rw [es];unfold yo
   split
   ·exact h.li q hq j hj
   ·split
    ·exact h.li c hc j hj
    ·exact h.li i hi j hj
  ·rw [ea,lX a hq,h.det];show -(e.rd*_)= -e.rd*_
   grind
  ·show -e.rd=_\/ -e.rd=_;rcases h.rd with e1|e1
   ·right;rw [e1]
   ·left;rw [e1];grind
  ·show zn (yy [] c q e.S) c c≠0;rw [es];unfold yo;rw [if_pos rfl];exact d
theorem aG {row:List Rat}(h:row.length=n)(k:by_.length=n)(hc:c<n):(uL c p row by_).length=n:=by
 unfold uL zT uN;rw [qT,qL,QP,jX,QP,xK,xK,h,k];omega
theorem VQ {row:List Rat}(h:row.length=n)(k:by_.length=n)(hc:c<n)(hj:j<n):(uL c p row by_).getD j 0=if c<j then p⁻¹*(by_.getD c 0*row.getD j 0+ -row.getD c 0*by_.getD j 0) else row.getD j 0:=by
 unfold uL;have hl:(row.take (c+1)).length=c+1:=by rw [qL,h];omega
 by_cases e:c<j
 ·rw [if_pos e,qQ,QJ za,hl,<-qQ,nw];have e1:(zT (by_.getD c 0) (row.drop (c+1))).length=n - (c+1):=by unfold zT;rw [QP,xK,h]
  have e2:(by_.drop (c+1)).length=n - (c+1):=by rw [xK,k]
  rw [Xl za za,nw,Wm,Wm,show c+1+(j - (c+1))=j by omega]
 ·rw [if_neg e,qQ,QH za,xI,if_pos za,<-qQ]
theorem Yt (hi:i<S.length):(vk c S).getD i []=if c<i then uL c (zK (zn S) c) (S.getD i []) (S.getD c []) else S.getD i []:=by
 unfold vk;rw [qQ,List.getElem?_mapIdx,qY hi];show(if c<i then _ else _)=_;rw [show S.getD i []=S[i] by rw [qQ,qY hi];rfl]
theorem Pv (h:zQ S n n)(hc:c<n):zQ (vk c S) n n:=by
 refine⟨by unfold vk;rw [List.length_mapIdx];exact h.rows,λL hL=>?_⟩;unfold vk at hL;obtain⟨i,hi,rfl⟩:=List.mem_mapIdx.1 hL
 split
 ·exact aG (h.cols _ (xM _)) (h.row hc) hc
 ·exact h.cols _ (xM _)
theorem Zl (h:zQ S n n)(hc:c<n)(hi:i<n)(hj:j<n):zn (vk c S) i j=uO c (zn S) i j:=by
 unfold uO;show((vk c S).getD i []).getD j 0=_;rw [Yt (by rw [h.rows];exact hi)];by_cases e:c<i
 ·rw [if_pos e,VQ (h.row hi) (h.row hc) hc hj];by_cases e2:c<j
  ·rw [if_pos e2,if_pos ⟨e,e2⟩];rfl
  ·rw [if_neg e2,if_neg λx=>e2 x.2];rfl
 ·rw [if_neg e,if_neg λx=>e x.1];rfl
theorem wY.congr {a s s':Nat->Nat->Rat}(h:wY n c a s)(e:∀i,i<n->∀j,j<n->s' i j=s i j):wY n c a s':=by
 have hc:=h.cn;have hp:∀k,k<=c->zK s' k=zK s k:=λk hk=>by
  unfold zK
  split
  ·rfl
  ·exact e _ za _ za
 refine⟨hc,λk hk=>by rw [e k za k za];exact h.ne k hk,λi hi j hj=>?_⟩;rw [h.eq i hi j hj,e i hi j hj,hp c (qX c)];congr 1;refine yj λk hk=>?_
 split
 ·unfold wA;rw [e i hi k za,e k za j hj,e k za k za,hp k za]
 ·rfl
theorem y4.next {e:xh}(h:y4 n c K M e)(hM:zQ M n n)(hn:n<=64)(hW:xm K M)(hb:wI c e<n - c):y4 n (c+1) K M (fI c e):=by
 obtain⟨hk,a⟩:=h.pick hb;have hc:c<n:=za;unfold fI;generalize o7 c e=f at*;have ea:aF M {f with S:=vk c f.S}=aF M f:=rfl;have el:∀i,i<n->∀j,j<n->zn (vk c f.S) i j=uO c (zn f.S) i j:=λi hi j hj=>Zl hk.dims hc hi hj;have hs:vn n n (c+1) (aF M f) (zn (vk c f.S)):=hk.sz.step hc hc a (λi h1 h2 j h3 h4=>by rw [el i h2 j h4];unfold uO;rw [if_pos ⟨h1,h3⟩]) (by rw [el c hc c hc];unfold uO;rw [if_neg za]);refine⟨Pv hk.dims hc,hk.tl,hk.perm,hk.tq,?_,hs,λi hi j hj=>?_,hk.det,hk.rd⟩
 ·exact(hk.inv.step hc a).congr el
 ·show LI _ (zn (vk c f.S) i j);by_cases e1:c<i/\c<j
  ·exact hs.at_ hn (hk.ali hM hW) e1.1 hi e1.2 hj
  ·rw [el i hi j hj];unfold uO;rw [if_neg e1];exact hk.li i hi j hj
def tS (n:Nat)(M:List (List Rat))(c:Nat):Prop:=∀k,k<c->wI k (xt M k)<n - k
theorem fH {n K:Nat}{M:List (List Rat)}(hM:zQ M n n)(hn:n<=64)(hW:xm K M):∀{c:Nat},tS n M c->y4 n c K M (xt M c)
 |0,_=>y4.start hM hn hW
 |c+1,h=>by
   rw [Tn];exact(fH hM hn hW λk hk=>h k za).next hM hn hW (h c za)
theorem pt (h:y4 n n K M (xt M n)):zK (zn (xt M n).S) n=(xt M n).rd*zD n (zn M):=by rw [h.sz.det,h.det]
theorem NK (h:y4 n n K M (xt M n)):zD n (zn M)≠0:=λh0=>by
 have h1:=pt h;rw [h0,XQ] at h1;exact h.inv.pr (qX n) h1
theorem SE (h:y4 n c K M (xt M c))(hc:c<n)(hb:¬ wI c (xt M c)<n - c):zD n (zn M)=0:=by
 have hr:=h.dims.rows;have h1:=h.sz.none hc λi h1 h2=>Qq (by rw [hr];exact hb) h1 (by rw [hr];exact h2);rw [h.det] at h1;have:=h.rne
 grind
set_option maxRecDepth 100000
def ya (h:Nat)(w w':World):Prop:=yl h w w'/\∀q t cs,q≠h->zh w q t cs->zh w' q t cs
theorem ya.set_ (h i:Nat)(w:World)(v:Value):ya h w (w.setCell ⟨h,i,none⟩ v):=⟨yl.of_far ((xg.refl h w).set_ i v),λq t cs hq hk=>zh.far (p:=⟨h,i,none⟩) hk hq v⟩
theorem ya.trans {w1 w2:World}(a:ya h w w1)(b:ya h w1 w2):ya h w w2:=
 ⟨⟨qD a.1.1 b.1.1,λp hp hq=>(b.1.2 p (qJ hp a.1.1) hq).trans (a.1.2 p hp hq)⟩,λq t cs hq hk=>b.2 q t cs hq (a.2 q t cs hq hk)⟩
theorem ya.grown (hg:w.grownBy w' (some h)):ya h w w':=⟨yl.of_grown hg,λq t cs hq hk=>(hg.block q hk.lt (λe=>hq (Option.some.inj e))).trans hk⟩
theorem ya.row (hk:zh w h t cs):ya h w (w.setRow h ds):=
 ⟨⟨zG,λp hp hq=>by
  unfold World.cell?;simp only [setRow_other w h p.block ds hq]⟩,λq t' cs' hq a=>(setRow_other w h q ds hq).trans a⟩
theorem tH (h:yb cs):tT .u64 cs:=λv hv z e=>h v hv .u64 z e
theorem yn.turn {q:Nat}(hv:yn w q m L)(ht:ya h w w')(hk:zh w h t cs)(hn:tT .u64 cs)(hq:q≠h):yn w' q m L:=by
 refine⟨hv.len,?_,λi x hi=>?_⟩
 ·obtain⟨ds,h1,h2,h3⟩:=hv.blk;exact⟨ds,ht.2 _ _ _ hq h1,h2,h3⟩
 ·obtain⟨b,B,k,d,F,u,v,h1,h2,h3,h4⟩:=hv.num i x hi;have hl:=hv.lt;exact⟨b,B,k,d,F,u,v,(ht.1.2 _ hl hq).trans h1,(ht.1.2 _ hl hq).trans h2,(ht.1.2 _ hl hq).trans h3,vM hk hn ht.1 h4⟩
theorem yx.turn {xs:List Rat}{us:List Value}(hr:yx zp w c s v xs us)(ht:ya h w w')(hk:zh w h t cs)(hn:tT .u64 cs)(hq:v.ownBlock≠some h):yx zp w' c s v xs us:=by
 refine⟨⟨hr.own.1,?_⟩,λq e=>?_,λi x hi=>?_⟩
 ·rcases hr.own.2 with h1|⟨g,cap,a,e1,e2,e3,e4⟩
  ·exact .inl h1
  ·exact .inr ⟨g,cap,a,e1,e2,ht.2 g s a (λe=>hq (by rw [e1,<-e];rfl)) e3,e4⟩
 ·obtain⟨a,s',h1,h2⟩:=hr.nou q e;exact⟨a,s',ht.2 q s' a (λe'=>hq (by rw [e,e'])) h1,h2⟩
 ·obtain⟨b,B,k,d,F,u,f,h1,h2,h3,h4⟩:=hr.num i x hi;exact⟨b,B,k,d,F,u,f,h1,h2,h3,vM hk hn ht.1 h4⟩
theorem wM.turn (hl:wM w a v ld)(ht:ya h w w')(hq:v.ownBlock≠some h):wM w' a v ld:=
 hl.off λg s cs e hk=>ht.2 g s cs (λe'=>hq (by rw [e,e'])) hk
theorem NS (h:qs.Nodup){i j:Nat}(hi:i<qs.length)(hj:j<qs.length)(e:qs[i]=qs[j]):i=j:=by
 have h2:=List.pairwise_iff_getElem.1 h;rcases XV i j with a|a|a
 ·exact absurd e (h2 i j hi hj a)
 ·exact a
 ·exact absurd e.symm (h2 j i hj hi a)
def uW (m:Nat)(qs:List Nat):List Value:=qs.map λq=>.slice (some ⟨q,0,none⟩) m m
structure vW (w:World)(g:Nat)(v:Value)(m:Nat)(S:List (List Rat))(qs:List Nat):Prop where
 own:w.ownsRow g 58 1 v S.length (uW m qs)
 sl:wC w v
 len:qs.length=S.length
 row:∀i,i<S.length->yn w (qs.getD i 0) m (S.getD i [])
 lo:∀q ∈ qs,g<q
 nd:qs.Nodup
theorem vW.nil (w:World)(g m:Nat):vW w g (.slice none 0 0) m [] []:=⟨xJ _ _ _ _,wC.nil _ _,rfl,λi hi=>absurd hi (Nat.not_lt_zero i),λq hq=>(by cases hq),List.nodup_nil⟩
theorem vW.at_ (h:vW w g v m S qs){q:Nat}(hq:v.ownBlock=some q):g<=q/\∃cs,zh w q 58 cs/\∀u ∈ cs.toList,xc u:=by
 rcases h.own.2 with⟨h1,_⟩|⟨g',cap,cur,e1,e2,e3,_⟩
 ·rw [h1] at hq;cases hq
 ·rw [e1] at hq;simp [Value.ownBlock] at hq;subst hq;obtain⟨a,s,h1,h2⟩:=h.sl g' (by rw [e1];rfl);have:a=cur:=by rw [e3] at h1;injection h1 with h1;injection h1 with h1 _;exact h1.symm
  subst this;exact⟨e2,a,e3,h2⟩
theorem vW.turn (hr:vW w g v m S qs)(ht:ya h w w')(hk:zh w h t cs)(hn:tT .u64 cs)(hv:v.ownBlock≠some h)(hq:h ∉ qs):vW w' g v m S qs where
 own:=⟨hr.own.1,by
  rcases hr.own.2 with h1|⟨g',cap,a,e1,e2,e3,e4⟩
  ·exact .inl h1
  ·exact .inr ⟨g',cap,a,e1,e2,ht.2 g' _ a (λe=>hv (by rw [e1,<-e];rfl)) e3,e4⟩⟩
 sl:=λq e=>by
  obtain⟨a,s',h1,h2⟩:=hr.sl q e;exact⟨a,s',ht.2 q s' a (λe'=>hv (by rw [e,e'])) h1,h2⟩
 len:=hr.len
 row:=λi hi=>(hr.row i hi).turn ht hk hn (λe=>hq (by rw [<-e];exact jl (by rw [hr.len];exact hi)))
 lo:=hr.lo
 nd:=hr.nd
theorem vW.below (hr:vW w g v m S qs)(hb:Below w.heap.size w w'):vW w' g v m S qs where
 own:=⟨hr.own.1,by
  rcases hr.own.2 with h1|⟨g',cap,cur,e1,e2,e3,e4⟩
  ·exact .inl h1
  ·exact .inr ⟨g',cap,cur,e1,e2,zg hb e3,e4⟩⟩
 sl:=hr.sl.below hb
 len:=hr.len
 row:=λi hi=>(hr.row i hi).keep hb
 lo:=hr.lo
 nd:=hr.nd
theorem vW.shape (h:vW w g v m S qs){n:Nat}(hn:S.length=n)(hm:m<=9223372036854775807):∃A c,v=.slice A n c/\n<=c/\c<=9223372036854775807/\xi (zZ zp) w A n S/\(∀ad,A=some ad->g<=ad.block)/\
  ∀i,i<n->∃q,A=some ⟨q,0,none⟩/\w.cell? ⟨q,i,none⟩=some (.slice (some ⟨qs.getD i 0,0,none⟩) m m):=by
 subst hn;have hl:=h.len;rcases h.own.2 with⟨rfl,h0⟩|⟨q,cap,cur,rfl,hbg,hg,hnc,hcm,hcs,htake⟩
 ·have hS:S=[]:=QX h0;subst hS;exact⟨none,0,rfl,qX _,zf,xi.nil w none,(λad e=>by cases e),λi hi=>by simp at hi⟩
 ·have a:=h.own.cells (g:=q) rfl;have d:∀i,i<S.length->w.cell? ((⟨q,0,none⟩:Addr).add i)=some (.slice (some ⟨qs.getD i 0,0,none⟩) m m):=λi hi=>a i _ (by
   unfold uW;rw [qW,qQ,qY za];rfl)
  refine⟨some ⟨q,0,none⟩,cap,rfl,hnc,by unfold maxLen at hcm;omega,⟨rfl,λi L hi=>?_⟩,(λad e=>by injection e with e;subst e;exact hbg),λi hi=>⟨q,rfl,by have:=d i hi;rw [wu] at this;exact this⟩⟩;have j:=(List.getElem?_eq_some_iff.1 hi).1;have hL:S.getD i []=L:=by rw [qQ,hi];rfl
  have hv:=(h.row i j);rw [hL] at hv;have k:=hv.len;exact⟨_,_,_,rfl,(zh.lt hg:q<_),by rw [k];exact d i j,by rw [k];exact wH.row hv hm⟩
structure zF (w:World)(g m:Nat)(e:xh)(A:ze)(n cA:Nat)(B:ze)(k cB:Nat)(D:ze)(l cD:Nat)(x0 x1 x2:Value)(qs:List Nat):Prop where
 blk:zh w g 82 #[.slice A n cA,.slice B k cB,.slice D l cD,x0,x1,x2]
 hn:e.S.length=n
 hk:e.T.length=k
 hl:e.P.length=l
 rows:vW w g (.slice A n cA) m e.S qs
 times:∃us,yx zp w g 54 (.slice B k cB) e.T us
 perm:wM w g (.slice D l cD) e.P
 rsd:RV w e.rd x0 x1 x2
 tq:∀q,(Value.slice B k cB).ownBlock=some q->q ∉ qs
section
variable {w w':World}{g m:Nat}{e:xh}{A:ze}{n cA:Nat}{B:ze}{k cB:Nat}{D:ze}{l cD:Nat}{x0 x1 x2:Value}{qs:List Nat}
theorem zF.below (h:zF w g m e A n cA B k cB D l cD x0 x1 x2 qs)(hb:Below w.heap.size w w'):zF w' g m e A n cA B k cB D l cD x0 x1 x2 qs:=by
 obtain⟨us,hu⟩:=h.times;exact{blk:=zg hb h.blk,hn:=h.hn,hk:=h.hk,hl:=h.hl,rows:=h.rows.below hb,times:=⟨us,hu.below yt hb⟩,perm:=h.perm.off λq s cs _ hq=>zg hb hq,rsd:=h.rsd.below hb,tq:=h.tq}
theorem zF.nok (h:zF w g m e A n cA B k cB D l cD x0 x1 x2 qs):tT .u64 #[.slice A n cA,.slice B k cB,.slice D l cD,x0,x1,x2]:=by
 obtain⟨_,_,_,_,_,_,_,rfl,rfl,rfl,_⟩:=h.rsd;intro v hv z e;simp at hv;rcases hv with rfl|rfl|rfl|rfl|rfl|rfl<;>cases e
theorem zF.lt (h:zF w g m e A n cA B k cB D l cD x0 x1 x2 qs):g<w.heap.size:=h.blk.lt
theorem zF.atB (h:zF w g m e A n cA B k cB D l cD x0 x1 x2 qs){q:Nat}(hq:(Value.slice B k cB).ownBlock=some q):g<=q/\∃cs,zh w q 54 cs/\yb cs:=by
 obtain⟨us,hu⟩:=h.times;rcases hu.own.2 with⟨h1,_⟩|⟨g',cap,cur,e1,e2,e3,_⟩
 ·rw [h1] at hq;cases hq
 ·rw [e1] at hq;simp [Value.ownBlock] at hq;subst hq;obtain⟨a,s,h1,h2⟩:=hu.nou g' (by rw [e1];rfl);have:a=cur:=by rw [e3] at h1;injection h1 with h1;injection h1 with h1 _;exact h1.symm
  subst this;exact⟨e2,a,e3,λu hu k z=>h2 u hu k z⟩
theorem zF.atD (h:zF w g m e A n cA B k cB D l cD x0 x1 x2 qs){q:Nat}(hq:(Value.slice D l cD).ownBlock=some q):g<=q/\∃cs,zh w q 3 cs/\∀u ∈ cs.toList,gz u:=by
 rcases h.perm.own.2 with⟨h1,_⟩|⟨g',cap,cur,e1,e2,e3,_⟩
 ·rw [h1] at hq;cases hq
 ·rw [e1] at hq;simp [Value.ownBlock] at hq;subst hq;obtain⟨a,s,h1,h2⟩:=h.perm.pr g' (by rw [e1];rfl);have:a=cur:=by rw [e3] at h1;injection h1 with h1;injection h1 with h1 _;exact h1.symm
  subst this;exact⟨e2,a,e3,h2⟩
theorem zF.atQ (h:zF w g m e A n cA B k cB D l cD x0 x1 x2 qs){q:Nat}(hq:q ∈ qs):g<q/\∃cs,zh w q 54 cs/\yb cs:=by
 obtain⟨i,hi,rfl⟩:=Xd hq;obtain⟨cs,h1,h2,_⟩:=(h.rows.row i (by rw [<-h.rows.len];exact hi)).blk;exact⟨h.rows.lo _ hq,cs,h1,h2⟩
theorem xu {q:Nat}(a:zh w q t cs)(b:zh w h s ds)(hn:t≠s):q≠h:=λe=>hn (by subst e;exact jG a b)
theorem zF.store (h:zF w g m e A n cA B k cB D l cD x0 x1 x2 qs)(ht:ya g w w'){A':ze}{n' cA':Nat}{B':ze}{k' cB':Nat}{D':ze}{l' cD':Nat}:vW w' g (.slice A n cA) m e.S qs/\(∃us,yx zp w' g 54 (.slice B k cB) e.T us)/\wM w' g (.slice D l cD) e.P/\RV w' e.rd x0 x1 x2:=by
 obtain⟨us,hu⟩:=h.times;refine⟨h.rows.turn ht h.blk h.nok (λe=>?_) (λe=>?_),⟨us,hu.turn ht h.blk h.nok λe=>?_⟩,h.perm.turn ht λe=>?_,h.rsd.off h.blk h.nok ht.1⟩
 ·obtain⟨_,cs,h1,_⟩:=h.rows.at_ e;exact xu h1 h.blk zf rfl
 ·have:=h.rows.lo _ e;omega
 ·obtain⟨_,cs,h1,_⟩:=h.atB e;exact xu h1 h.blk zf rfl
 ·obtain⟨_,cs,h1,_⟩:=h.atD e;exact xu h1 h.blk zf rfl
theorem zF.turnA (h:zF w g m e A n cA B k cB D l cD x0 x1 x2 qs){q:Nat}(hq:(Value.slice A n cA).ownBlock=some q)(ht:ya q w w'):zh w' g 82 #[.slice A n cA,.slice B k cB,.slice D l cD,x0,x1,x2]/\(∃us,yx zp w' g 54 (.slice B k cB) e.T us)/\wM w' g (.slice D l cD) e.P/\RV w' e.rd x0 x1 x2/\∀i,i<e.S.length->yn w' (qs.getD i 0) m (e.S.getD i []):=by
 obtain⟨us,hu⟩:=h.times;obtain⟨_,cs,hk,hs⟩:=h.rows.at_ hq;refine⟨ht.2 _ _ _ (Ne.symm (xu hk h.blk zf)) h.blk,⟨us,hu.turn ht hk (fE hs) λe=>?_⟩,h.perm.turn ht (λe=>?_),h.rsd.off hk (fE hs) ht.1,λi hi=>(h.rows.row i hi).turn ht hk (fE hs) ?_⟩
 ·obtain⟨_,ds,h1,_⟩:=h.atB e;exact xu h1 hk zf rfl
 ·obtain⟨_,ds,h1,_⟩:=h.atD e;exact xu h1 hk zf rfl
 ·obtain⟨_,ds,h1,_⟩:=h.atQ (q:=qs.getD i 0) (jl (by rw [h.rows.len];exact hi));exact xu h1 hk zf
theorem zF.turnB (h:zF w g m e A n cA B k cB D l cD x0 x1 x2 qs){q:Nat}(hq:(Value.slice B k cB).ownBlock=some q)(ht:ya q w w'):zh w' g 82 #[.slice A n cA,.slice B k cB,.slice D l cD,x0,x1,x2]/\vW w' g (.slice A n cA) m e.S qs/\wM w' g (.slice D l cD) e.P/\RV w' e.rd x0 x1 x2:=by
 obtain⟨_,cs,hk,hs⟩:=h.atB hq;refine⟨ht.2 _ _ _ (Ne.symm (xu hk h.blk zf)) h.blk,h.rows.turn ht hk (tH hs) (λe=>?_) (h.tq q hq),h.perm.turn ht (λe=>?_),h.rsd.off hk (tH hs) ht.1⟩
 ·obtain⟨_,ds,h1,_⟩:=h.rows.at_ e;exact xu h1 hk zf rfl
 ·obtain⟨_,ds,h1,_⟩:=h.atD e;exact xu h1 hk zf rfl
theorem zF.turnD (h:zF w g m e A n cA B k cB D l cD x0 x1 x2 qs){q:Nat}(hq:(Value.slice D l cD).ownBlock=some q)(ht:ya q w w'):zh w' g 82 #[.slice A n cA,.slice B k cB,.slice D l cD,x0,x1,x2]/\vW w' g (.slice A n cA) m e.S qs/\(∃us,yx zp w' g 54 (.slice B k cB) e.T us)/\RV w' e.rd x0 x1 x2:=by
 obtain⟨us,hu⟩:=h.times;obtain⟨_,cs,hk,hs⟩:=h.atD hq;refine⟨ht.2 _ _ _ (Ne.symm (xu hk h.blk zf)) h.blk,h.rows.turn ht hk (Zr hs) (λe=>?_) (λe=>?_),⟨us,hu.turn ht hk (Zr hs) λe=>?_⟩,h.rsd.off hk (Zr hs) ht.1⟩
 ·obtain⟨_,ds,h1,_⟩:=h.rows.at_ e;exact xu h1 hk zf rfl
 ·obtain⟨_,ds,h1,_⟩:=h.atQ e;exact xu h1 hk zf rfl
 ·obtain⟨_,ds,h1,_⟩:=h.atB e;exact xu h1 hk zf rfl
theorem zF.turnQ (h:zF w g m e A n cA B k cB D l cD x0 x1 x2 qs){i:Nat}(hi:i<n){L:List Rat}(ht:ya (qs.getD i 0) w w')(hv:yn w' (qs.getD i 0) m L):zF w' g m {e with S:=e.S.set i L} A n cA B k cB D l cD x0 x1 x2 qs:=by
 obtain⟨us,hu⟩:=h.times;have a:=h.rows.len;have d:i<e.S.length:=by rw [h.hn];exact hi
 have c:qs.getD i 0 ∈ qs:=jl za;obtain⟨_,cs,hk,hs⟩:=h.atQ c;exact {
  blk:=ht.2 _ _ _ (Ne.symm (xu hk h.blk zf)) h.blk
  hn:=by rw [<-h.hn];exact QV
  hk:=h.hk
  hl:=h.hl
  rows:={
   own:=⟨by show(uW m qs).length=(e.S.set i L).length*1;rw [QV];exact h.rows.own.1,by
    show _\/_;rw [QV];rcases h.rows.own.2 with h1|⟨g',cap,cur,e1,e2,e3,e4⟩
    ·exact .inl h1
    ·exact .inr ⟨g',cap,cur,e1,e2,ht.2 g' _ cur (xu e3 hk zf) e3,e4⟩⟩
   sl:=λq e=>by
    obtain⟨cur,s',h1,h2⟩:=h.rows.sl q e;obtain⟨_,ds,h3,_⟩:=h.rows.at_ e;exact⟨cur,s',ht.2 q s' cur (xu h3 hk zf) h1,h2⟩
   len:=by show qs.length=(e.S.set i L).length;rw [QV];exact a
   row:=λj hj=>by
    have hj:j<(e.S.set i L).length:=hj;rw [QV] at hj;by_cases hij:j=i
    ·subst hij;rw [Z7 _ d];exact hv
    ·rw [aE _ hij];refine(h.rows.row j hj).turn ht hk (tH hs) λe=>hij ?_;have h1:qs[j]?=some (qs.getD j 0):=vi za;have h2:qs[i]?=some (qs.getD i 0):=vi za;rw [qY za] at h1 h2;injection h1 with h1;injection h2 with h2;exact NS h.rows.nd za za (h1.trans (e.trans h2.symm))
   lo:=h.rows.lo
   nd:=h.rows.nd}
  times:=⟨us,hu.turn ht hk (tH hs) λe=>h.tq _ e c⟩
  perm:=h.perm.turn ht λe=>by obtain⟨_,ds,h1,_⟩:=h.atD e;exact xu h1 hk zf rfl
  rsd:=h.rsd.off hk (tH hs) ht.1
  tq:=h.tq}
end
section
variable {α:Type}{E:El α}
theorem yx.open {xs:List α}(h:yx E w i t (.slice (some ad) n c) xs vs):
  ∃a:Array Value,ad=⟨ad.block,0,none⟩/\i<=ad.block/\n=xs.length/\zh w ad.block t a/\xs.length<=c/\c<=maxLen/\a.size=c*3/\a.toList.take (xs.length*3)=vs/\yb a:=by
 rcases h.own.2 with⟨e,h0⟩|⟨g,cap,a,e,hbg,hg,hnc,hcm,hcs,htake⟩
 ·cases e
 ·injection e with e1 e2 e3;injection e1 with e1;subst e1 e2 e3;obtain⟨j,e2,d,o⟩:=h.nou g rfl;have m:j=a:=by
   rw [hg] at d;injection d with d;injection d with d;exact d.symm
  subst m;exact⟨j,rfl,hbg,rfl,hg,hnc,hcm,hcs,htake,λu hu k z=>o u hu k z⟩
theorem yx.ready {xs:List α}(h:yx E w j t (.slice (some ad) n c) xs vs){i:Nat}(hi:i<n)(x y:Value):∃a b d:Value,w.cell? ⟨ad.block,i*3,none⟩=some a/\w.frozen? ⟨ad.block,i*3,none⟩=false/\(w.setCell ⟨ad.block,i*3,none⟩ x).cell? ⟨ad.block,i*3+1,none⟩=some b/\(w.setCell ⟨ad.block,i*3,none⟩ x).frozen? ⟨ad.block,i*3+1,none⟩=false/\
  ((w.setCell ⟨ad.block,i*3,none⟩ x).setCell ⟨ad.block,i*3+1,none⟩ y).cell? ⟨ad.block,i*3+2,none⟩=some d/\((w.setCell ⟨ad.block,i*3,none⟩ x).setCell ⟨ad.block,i*3+1,none⟩ y).frozen? ⟨ad.block,i*3+2,none⟩=false:=by
 obtain⟨cs,-,-,h0,hk,h1,-,h2,-⟩:=h.open;have g:=hk.set_ (i*3) x;have k:=g.set_ (i*3+1) y;have e0:i*3<cs.size:=za;have e1:i*3+1<(cs.setIfInBounds (i*3) x).size:=by simp;omega
 have e2:i*3+2<((cs.setIfInBounds (i*3) x).setIfInBounds (i*3+1) y).size:=by simp;omega
 exact⟨_,_,_,(hk.cell _).trans (QU e0),hk.frozen _,(g.cell _).trans (QU e1),g.frozen _,(k.cell _).trans (QU e2),k.frozen _⟩
theorem yx.put (hE:vU E){w:World}{A n c:Nat}{t:TypeId}{ad:Addr}{xs:List α}{vs:List Value}(h:yx E w A t (.slice (some ad) n c) xs vs){i:Nat}(hi:i<n){x:α}{b:Bool}{B:ze}{m d:Nat}{F:ze}{u v:Nat}(hx:E w x b B m d F u v):
  ∃N,yx E (((w.setCell ⟨ad.block,i*3,none⟩ (.bool b)).setCell ⟨ad.block,i*3+1,none⟩ (.slice B m d)).setCell ⟨ad.block,i*3+2,none⟩ (.slice F u v)) A t (.slice (some ad) n c) (xs.set i x) N:=by
 obtain⟨cs,e9,D,h0,hk,h1,K,h2,h3,C⟩:=h.open;obtain⟨g,o,p⟩:=ad;simp only [Addr.mk.injEq,true_and] at e9;obtain⟨rfl,rfl⟩:=e9;simp only at hk D⊢;have ho:=yl.of_far (fJ g (i*3) (i*3+1) (i*3+2) w (.bool b) (.slice B m d) (.slice F u v));have G:=((hk.set_ (i*3) (.bool b)).set_ (i*3+1) (.slice B m d)).set_ (i*3+2) (.slice F u v);have L:yb (((cs.setIfInBounds (i*3) (.bool b)).setIfInBounds (i*3+1) (.slice B m d)).setIfInBounds (i*3+2) (.slice F u v)):=fv (fv (fv C _ (λ_ _ e=>by cases e)) _ (λ_ _ e=>by cases e)) _ (λ_ _ e=>by cases e);generalize ((w.setCell ⟨g,i*3,none⟩ (.bool b)).setCell ⟨g,i*3+1,none⟩ (.slice B m d)).setCell ⟨g,i*3+2,none⟩ (.slice F u v)=w3 at*;obtain⟨vC,a⟩:∃q,((cs.setIfInBounds (i*3) (.bool b)).setIfInBounds (i*3+1) (.slice B m d)).setIfInBounds (i*3+2) (.slice F u v)=q:=⟨_,rfl⟩;have H:vC.size=cs.size:=by rw [<-a];simp
 have s:∀k,k<xs.length*3->(vC.toList.take (xs.length*3))[k]?=vC[k]?:=λk J=>by
  rw [List.getElem?_take_of_lt J,QR]
 refine⟨vC.toList.take (xs.length*3),⟨⟨?_,.inr ⟨g,c,vC,by rw [QV,h0],D,by rw [<-a];exact G,by rw [QV];exact h1,K,by rw [H];exact h2,by rw [QV]⟩⟩,?_,?_⟩⟩
 ·have M:vC.toList.length=c*3:=by rw [XE,H,h2]
  rw [qL,M,QV];omega
 ·intro g' e;simp [Value.ownBlock] at e;subst e;exact⟨vC,t,by rw [<-a];exact G,λq hq k z=>by rw [<-a] at hq;exact L q hq k z⟩
 ·intro j y hj;have I:=(List.getElem?_eq_some_iff.1 hj).1;rw [QV] at I;by_cases hij:i=j
  ·subst hij;rw [XY za] at hj;injection hj with hj;subst hj;refine⟨b,B,m,d,F,u,v,?_,?_,?_,hE.offg hx hk C ho⟩
   ·rw [s _ za,<-a,qK za,qK za,QZ za]
   ·rw [s _ za,<-a,qK za,QZ (by simp;omega)]
   ·rw [s _ za,<-a,QZ (by simp;omega)]
  ·rw [XJ hij] at hj;obtain⟨b1,B1,m1,d1,F1,u1,f1,c1,c2,c3,c4⟩:=h.num j y hj;rw [<-h3,List.getElem?_take_of_lt za,QR] at c1 c2 c3;refine⟨b1,B1,m1,d1,F1,u1,f1,?_,?_,?_,hE.offg c4 hk C ho⟩
   ·rw [s _ za,<-a,qK za,qK za,qK za];exact c1
   ·rw [s _ za,<-a,qK za,qK za,qK za];exact c2
   ·rw [s _ za,<-a,qK za,qK za,qK za];exact c3
end
theorem Rv {e:TypeId}{xs:List Value}(h:w.ownsRow a e c v n xs)(hg:∀b,v.ownBlock=some b->w'.heap[b]?=w.heap[b]?):w'.ownsRow a e c v n xs:=by
 refine⟨h.1,?_⟩;rcases h.2 with h1|⟨g,cap,cur,e1,e2,e3,e4⟩
 ·exact .inl h1
 ·exact .inr ⟨g,cap,cur,e1,e2,(hg g (by rw [e1];rfl)).trans e3,e4⟩
theorem sk.put {E:El Rat}(hE:vU E){w:World}{lo n c i j:Nat}{v:Value}{M:List (List Rat)}{vs:List Value}{L:List Rat}{ad:Addr}(h:sk E w lo v M vs)(hM:M[i]?=some L)(hu:vs[i]?=some (.slice (some ad) n c))(hj:j<n){x:Rat}{b:Bool}{B:ze}{m d:Nat}{F:ze}{u f:Nat}(hx:E w x b B m d F u f):
  sk E (((w.setCell ⟨ad.block,j*3,none⟩ (.bool b)).setCell ⟨ad.block,j*3+1,none⟩ (.slice B m d)).setCell ⟨ad.block,j*3+2,none⟩ (.slice F u f)) lo v (M.set i (L.set j x)) vs:=by
 obtain⟨z,zs,h1,h2⟩:=h.num i L hM;rw [hu] at h1;injection h1 with h1;subst h1;obtain⟨s,hp⟩:=h2.put hE hj hx;obtain⟨cs,-,-,-,hk,-,-,-,-,o⟩:=h2.open;have ho:=yl.of_far (fJ ad.block (j*3) (j*3+1) (j*3+2) w (.bool b) (.slice B m d) (.slice F u f));have hh:∀k,k≠ad.block->(((w.setCell ⟨ad.block,j*3,none⟩ (.bool b)).setCell ⟨ad.block,j*3+1,none⟩ (.slice B m d)).setCell ⟨ad.block,j*3+2,none⟩ (.slice F u f)).heap[k]?=w.heap[k]?:=λk a=>
  (Below.heap_setCell _ ⟨ad.block,j*3+2,none⟩ _ k a).trans ((Below.heap_setCell _ ⟨ad.block,j*3+1,none⟩ _ k a).trans (Below.heap_setCell w ⟨ad.block,j*3,none⟩ _ k a))
 generalize ((w.setCell ⟨ad.block,j*3,none⟩ (.bool b)).setCell ⟨ad.block,j*3+1,none⟩ (.slice B m d)).setCell ⟨ad.block,j*3+2,none⟩ (.slice F u f)=w3 at*;have g:∀q,v.ownBlock=some q->q≠ad.block:=λq e e2=>h.far i _ ad.block hu rfl (e.trans (by rw [e2]));refine⟨by rw [QV];exact Rv h.own (λq e=>hh q (g q e)),h.sl.block (λq e=>hh q (g q e)),λk K a=>?_,h.apart,h.far⟩;by_cases hik:i=k
 ·subst hik;have hl:=(List.getElem?_eq_some_iff.1 hM).1;rw [XY za] at a;injection a with a;subst a;exact⟨_,s,hu,hp⟩
 ·rw [XJ hik] at a;obtain⟨z1,t,h3,h4⟩:=h.num k K a;exact⟨z1,t,h3,h4.moved (λq e=>hh q (λe2=>hik (h.apart i k _ z1 ad.block hu h3 rfl (by rw [e,e2])))) (λh5=>hE.offg h5 hk o ho)⟩
def ZR (E:El Rat)(Z:Nat->Prop):RP Rat:=λw B m d L=>zZ E w B m d L/\∀ad,B=some ad->Z ad.block
theorem bK {E:El Rat}(hE:vU E)(Z:Nat->Prop):tJ (ZR E Z):=⟨λh=>h.1.len,λh hb=>⟨h.1.below hE hb,h.2⟩,λh hk hs ho=>⟨TG hE h.1 hk hs ho,h.2⟩,λw=>⟨zZ.nil w,λad e=>by cases e⟩⟩
theorem ZR.grown {E:El Rat}(hE:vU E){Z:Nat->Prop}{w w':World}{u:Value}{B:ze}{m d:Nat}{L:List Rat}(h:ZR E Z w B m d L)(hg:w.grownBy w' u.ownBlock)(hn:wV w u)(hz:∀b,u.ownBlock=some b->¬ Z b):ZR E Z w' B m d L:=by
 refine⟨?_,h.2⟩;cases hv:u.ownBlock with
 |none=>rw [hv] at hg;exact h.1.below hE (sU hg)
 |some g=>
   rw [hv] at hg;obtain⟨t,cs,hk,hc⟩:=hn.blk hv;have ho:yl g w w':=yl.of_grown hg;refine⟨h.1.len,h.1.fits,h.1.most,λi x hi=>?_⟩;obtain⟨ad,b,B1,m1,d1,F,u1,v1,e,h1,h2,h3,h4,h5⟩:=h.1.num i x hi;have c:ad.block≠g:=λe9=>hz g hv (e9▸h.2 ad e);have a:∀j,w'.cell? (ad.add j)=w.cell? (ad.add j):=λj=>ho.2 _ (by rw [yw];exact h1) (by rw [yw];exact c);exact⟨ad,b,B1,m1,d1,F,u1,v1,e,qJ h1 ho.1,(a _).trans h2,(a _).trans h3,(a _).trans h4,hE.offg h5 hk hc ho⟩
structure ZM (E:El Rat)(Z:Nat->Prop)(w:World)(A:ze)(n c:Nat)(M:List (List Rat)):Prop where
 fits:n<=c
 most:c<=9223372036854775807
 rows:xi (ZR E Z) w A n M
 ty:∀ad,A=some ad->sm w ad.block 78
theorem ZM.below {E:El Rat}(hE:vU E){Z:Nat->Prop}{w w':World}{A:ze}{n c:Nat}{M:List (List Rat)}(h:ZM E Z w A n c M)(hb:Below w.heap.size w w'):ZM E Z w' A n c M:=⟨h.fits,h.most,h.rows.below (bK hE Z) hb,λad e=>(h.ty ad e).below hb⟩
theorem ZM.grown {E:El Rat}(hE:vU E){E':El Rat}{Z:Nat->Prop}{w w':World}{A:ze}{n c j m:Nat}{M:List (List Rat)}{u:Value}{L:List Rat}{us:List Value}(h:ZM E Z w A n c M)(hu:yx E' w j 43 u L us)(hg:w.grownBy w' u.ownBlock)(hz:∀b,u.ownBlock=some b->¬ Z b):ZM E Z w' A n c M:=by
 cases hv:u.ownBlock with
 |none=>rw [hv] at hg;exact h.below hE (sU hg)
 |some g=>
   obtain⟨B,d,rfl,-,-⟩:=hu.shape;cases B with
   |none=>simp [Value.ownBlock] at hv
   |some ad=>
     obtain⟨cur,-,-,-,hk,-⟩:=hu.open;have hb:ad.block=g:=by simp [Value.ownBlock] at hv;exact hv
     subst hb;have i:=hg;rw [hv] at i;refine⟨h.fits,h.most,h.rows.off (λa e=>(h.ty a e).ne hk zf) (yl.of_grown i) (λh5=>ZR.grown hE h5 hg hu.nou hz),λa e=>?_⟩;obtain⟨cs,h9⟩:=h.ty a e;exact⟨cs,uw h9 i (λe2=>by injection e2 with e2;exact(h.ty a e).ne hk zf e2.symm)⟩
section
variable {w:World}
theorem Ns:∀(args:Array Value) (w':World),Sem.run prog (callFunc 87 args) w'=.ok (.enter 87 args) w':=Go.Proofs.enters_of func87 zU rfl
theorem rS {d:Nat}{V:ze}(hT:zu w)(hk:zh w gc 3 #[.int .i64 (c:Int)])(hv:z7 w V m d L)(hc:c<m)(hz:zN K L)(hK:K<=67108864:=by omega):
  Calls prog 87 #[.slice V m d,.pointer (some ⟨gc,0,none⟩)] w (λe w'=>e=.returned (.bool (!decide (L.getD c 0=0)))/\Below w.heap.size w w'):=by
 have g0:=hk.c1;have HS:=zb (hz.at_ (k:=c) (by rw [hv.len];exact hc));obtain⟨ad,b1,B1,m1,d1,E1,u1,v1,rfl,-,h0,h1,h2,hx⟩:=hv.get (qZ _ _) hc;have i1:(0:Int)<=(c:Int):=za;have i2:(c:Int)<(m:Int):=za;have i3:c<m:=hc;generalize L.getD c 0=x at*;obtain⟨t,ht⟩:∃t,decide (x=0)=t:=⟨_,rfl⟩;rw [ht];have a:=zb (WF ht hT hx HS.o hK);clear hk hv hz hx hc hT ht;go_enter func87,ntmps87;go_wp2_with fail;clear h0 h1 h2 g0;refine a.o.mono ?_;rintro eo w1 ⟨rfl,hb⟩;have HB:=zb hb;clear hb a;go_wp2;go_ret;exact⟨rfl,HB.o⟩
theorem VD {q:Nat}{Q:ze}(hT:zu w)(h:xi (zZ zp) w Q n M)(hk:zh w gc 3 #[.int .i64 (c:Int)])(hc:c<m)(hd:∀L ∈ M,L.length=m)(hz:yc K M)(hn:n<=1048576)(hK:K<=67108864:=by omega):
  Calls prog 86 #[.slice Q n q,.func (.func 87) #[] #[.pointer (some ⟨gc,0,none⟩)]] w (λe w'=>e=.returned (.int .i64 (vF c M))/\Below w.heap.size w w'):=by
 have hl:=h.len;have HR:=zb h;have HT:=zj w (λw' hb=>hT.on hb);have HK:=zj w (λw' hb=>zg hb hk);have HD:zd (∀k,k<n->(M.getD k []).length=m):=λk hk=>hd _ (QY (vi za));have HZ:zd (∀k,k<n->zN K (M.getD k [])):=λk hk=>hz.row za;have HI:zd (∀k,k<n->(∀j,j<k->(M.getD j []).getD c 0=0)->(M.getD k []).getD c 0≠0->vF c M=(k:Int)):=λk hk=>ms za;have HN:zd ((∀j,j<n->(M.getD j []).getD c 0=0)->vF c M= -1):=λh0=>NA (by rw [hl];exact h0);have hEn:=Ns;have hB:=qZ w.heap.size w;have i0:(0:Int)<=(n:Int):=za;have HC:=zb hc;obtain⟨zi,y⟩:∃zi,vF c M=zi:=⟨_,rfl⟩;rw [y] at HI HN⊢;clear h hk hl hd hz hT hc y;go_enter func86,ntmps86;go_wp2_with fail
 go_loopg [8] (n+1) (λg ix wr=>∃(k:Nat),k<=n/\n<g+k/\ix=.int .i64 k/\zd (∀j,j<k->(M.getD j []).getD c 0=0)/\Below w.heap.size w wr)
 case atStart=>exact⟨0,QQ _,za,rfl,λj hj=>(by cases hj),hB⟩
 case round=>
  clear hB;obtain⟨k,hkn,hg,rfl,u,hB⟩:=hrel;by_cases hlt:k<n
  ·have C:decide ((k:Int)<(n:Int))=true:=decide_eq_true za;have i1:(0:Int)<=(k:Int):=za;have i2:(k:Int)<(n:Int):=za;obtain⟨ad,B,d,rfl,-,v,hv⟩:=HR.o.get (yk yt) hB hlt (HD.o k hlt);have A:=zb (HZ.o k hlt);have s:=zb (HI.o k hlt u.o);have HB:=zb hB;have t:zd ((M.getD k []).getD c 0=0->∀j,j<k+1->(M.getD j []).getD c 0=0):=λe j hj=>by
    rcases xW j k with a|a
    ·exact u.o j a
    ·rw [show j=k by omega];exact e
   have i:=zb (rS (HT.o _ hB) (HK.o _ hB) hv HC.o A.o hK);clear hB hv;by_cases h0:(M.getD k []).getD c 0=0
   ·have z:=zb (t.o h0);have i:=i.o;rw [h0,show(!decide ((0:Rat)=0))=false from rfl] at i;have i:=zb i;clear h0 t s;go_wp2_with fail;refine i.o.mono ?_;rintro eo w3 ⟨rfl,hb⟩;have o:=zb (zc HB.o hb);clear hb v;go_wp2;go_roundg (n - k)
    case measure=>omega
    case rel=>exact⟨k+1,za,za,by go_num,z.o,o.o⟩
   ·have HE:=zb (s.o h0);have i:=i.o;rw [decide_eq_false h0,show(!false)=true from rfl] at i;have i:=zb i;clear h0 t s;go_wp2_with fail;refine i.o.mono ?_;rintro eo w3 ⟨rfl,hb⟩;have o:=zb (zc HB.o hb);clear hb v;go_wp2;go_ret;exact⟨by rw [HE.o];rfl,o.o⟩
  ·have D:k=n:=za;subst D;have C:decide ((k:Int)<(k:Int))=false:=zG;have HE:=zb (HN.o u.o);have o:=zb hB;clear hB;go_wp2;go_ret;exact⟨by rw [HE.o];rfl,o.o⟩
end
def bC (w:World)(n:Nat)(ld:List Nat)(eo:Ending)(w':World):Prop:=∃(A:ze) (c:Nat),eo=.returned (.slice A n c)/\s8 w' A n (mC ld)/\Below w.heap.size w w'
theorem Wp {A:ze}(hl:ld.length=n)(hb:∀l ∈ ld,l<128)(h:∀i,i<n->∃ad,A=some ad/\w.cell? (ad.add i)=some (.int .i64 (ld.getD i 0:Nat))):s8 w A n (mC ld) where
 len:=by unfold mC;rw [QP];exact hl
 ints:=λi hi=>by
  have:=hb (ld.getD i 0) (jl za);rw [ph za];omega
 num:=λi hi=>by
  rw [ph za];exact h i hi
theorem Po (ho:w'.ownsRow w.heap.size 3 1 v n (vG ld))(hl:ld.length=n)(hb:∀l ∈ ld,l<128)(hB:Below w.heap.size w w'):bC w n ld (.returned v) w':=by
 rcases ho.2 with⟨rfl,h0⟩|⟨g,cap,cur,rfl,hbg,hg,hnc,hcm,hcs,htake⟩
 ·subst h0;exact⟨none,0,rfl,Wp hl hb λi hi=>absurd hi (Nat.not_lt_zero i),hB⟩
 ·have a:=ho.cells (g:=g) rfl;refine⟨some ⟨g,0,none⟩,cap,rfl,Wp hl hb λi hi=>⟨_,rfl,a _ _ ?_⟩,hB⟩;unfold vG;rw [qW,qQ,qY za];rfl
theorem mD (ld:List Nat):∀u ∈ vG ld,u.oneCell'=true:=λu hu=>by
 obtain⟨l,_,rfl⟩:=List.mem_map.1 hu;rfl
theorem Rp (ad:Addr)(n c:Nat)(l:List Nat)(w:World)(hA:zL w w.heap.size 1 (some ad) n (vG l))(hl:l.length=n)(hb:∀x ∈ l,x<128)(hn:n<=1048576):
  Calls prog 63 #[.slice (some ad) n c] w (bC w n l):=by
 obtain⟨i0,u,v,y,z⟩:=info_parts kI;have q:∀(w:World) (a:ze) (n c n' c':Nat),(binOp .eql 38 (.slice a n c) (.slice none n' c')).run prog w=.ok (.bool a.isNone) w:=λw a n c n' c'=>Lib.run_eql_slice_nil w _ _ a n c n' c' underlying38;have s:∀o,zL (w.alloc o) w.heap.size 1 (some ad) n (vG l):=λo=>hA.alloc (qX _) o;have HL:=zb hl;have m:=zb hb;clear hl hb;go_enter func63,ntmps63;go_wp2_with (at_builtin;refine bP _ rfl (.tmp 5) (.tmp 6) 38 rfl w.heap.size 3 i0 (.int .i64 0) 1 8 underlying38 u v y z rfl zf (.slice (some ⟨w.heap.size,0,none⟩) 0 0) 0 [] rfl (World.ownsRow_made w #[] 0 (qX _) (QQ _) rfl) _ (some ad) n c (vG l) rfl (s _) (mD _) (by unfold maxLen;omega) za zG ?_;intro v' w1 i d t);have k:Below w.heap.size w w1:=((qZ _ w).alloc (qX _) _).grown d zG (λg hg=>by simp [Value.ownBlock] at hg;omega);have j:w1.ownsRow w.heap.size 3 1 v' n (vG l):=by simpa using i
 have G:=zb (Po j HL.o m.o k);clear i d t k j;go_wp2;go_ret;exact G.o
theorem Ro (c:Nat)(w:World):Calls prog 63 #[.slice none 0 c] w λe w'=>e=.returned (.slice none 0 0)/\w=w':=by
 have q:∀(w:World) (a:ze) (n c n' c':Nat),(binOp .eql 38 (.slice a n c) (.slice none n' c')).run prog w=.ok (.bool a.isNone) w:=λw a n c n' c'=>Lib.run_eql_slice_nil w _ _ a n c n' c' underlying38;go_enter func63,ntmps63;go_wp2;go_ret;exact⟨rfl,rfl⟩
section
variable {w:World}{g n K:Nat}{e:xh}{M:List (List Rat)}{cA cB cD:Nat}{A B D:ze}{x0 x1 x2:Value}{qs:List Nat}
theorem mM (h:zF w g n e A n cA B n cB D n cD x0 x1 x2 qs)(a:y4 n n K M e)(hn:n<=64):
  Calls prog 21 #[.pointer (some ⟨g,0,none⟩)] w (bC w n e.P):=by
 have q0:=h.blk.cell 2;have hl:=a.pl;have hb:∀x ∈ e.P,x<128:=λx hx=>by
  have:=List.mem_range.1 (a.perm.mem_iff.1 hx);omega
 have HC:zd (Calls prog 63 #[.slice D n cD] w (bC w n e.P)):=by
  obtain⟨A',c',e1,e2,e3,-,e4⟩:=h.perm.shape;rw [hl] at e1 e4;injection e1 with e1 _ _;subst e1;cases D with
  |none=>
    have m:n=0:=by
     rcases xQ n with h0|h0
     ·exact h0
     ·obtain⟨ad,e9,_⟩:=e4 0 h0;cases e9
    subst m;exact(Ro cD w).mono λeo w' ⟨h1,h2⟩=>by
     subst h1 h2;exact⟨none,0,rfl,Wp hl hb λi hi=>absurd hi (Nat.not_lt_zero i),qZ _ _⟩
  |some ad=>
    refine Rp ad n cD e.P w ⟨by unfold vG;rw [QP,hl,xS],λh0=>?_⟩ hl hb za;obtain⟨ad2,e9,d⟩:=e4 0 h0;injection e9 with e9;subst e9;refine⟨_,rfl,by have:=xY w _ d;rwa [yw] at this,λj u hj=>?_⟩;have k:j<n:=by
     have:=(List.getElem?_eq_some_iff.1 hj).1;unfold vG at this;rw [QP] at this;omega
    obtain⟨ad3,e9,hc⟩:=e4 j k;injection e9 with e9;subst e9;rw [hc];unfold vG at hj;rw [qW,qY za] at hj;rw [qQ,qY za];exact hj
 clear h a hl hb;go_enter func21,ntmps21;go_wp2_with fail;(with_reducible refine HC.o.mono ?_);rintro eo w2 ⟨A2,c2,rfl,c,hb⟩;have HF:zd (bC w n e.P (.returned (.slice A2 n c2)) w2):=⟨A2,c2,rfl,c,hb⟩;clear c hb q0 HC;go_wp2;go_ret;exact HF.o
end
