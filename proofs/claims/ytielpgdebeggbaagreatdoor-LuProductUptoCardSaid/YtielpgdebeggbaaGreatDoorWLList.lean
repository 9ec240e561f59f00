/- What this claim leans on. -/
import Derived.Test.YtielpgdebeggbaaGreatDoorWW8Is
import Derived.Laws.Append
import Derived.Laws.CopyRow
set_option linter.unusedVariables false
set_option linter.unusedSimpArgs false
namespace Go.Proofs.YtielpgdebeggbaaGreatDoor
open Go Go.RowKit
set_option maxHeartbeats 16000000
variable {cs ds:Array Value}{M S:List (List Rat)}{qs:List Nat}{by_:List Rat}{K c g h i j m n:Nat}{p:Rat}{s t:TypeId}{v:Value}{w w':World}
structure yt where
 S:List (List Rat)
 T:List Rat
 P:List Nat
 rd:Rat
def yq {α:Type}(d:α)(r q:Nat)(L:List α):List α:=(L.set r (L.getD q d)).set q (L.getD r d)
theorem og {α:Type}(d:α)(r q:Nat)(L:List α):(yq d r q L).length=L.length:=by unfold yq;rw [QX,QX]
theorem ju {α:Type}(d:α){r q:Nat}{L:List α}(hr:r<L.length)(hq:q<L.length)(i:Nat):(yq d r q L).getD i d=if i=r then L.getD q d else if i=q then L.getD r d else L.getD i d:=by
 unfold yq;rw [qQ,List.getElem?_set,List.getElem?_set];by_cases e1:i=r
 ·rw [if_pos e1];by_cases e2:q=i
  ·rw [if_pos e2,if_pos (by rw [QX];omega),show q=r by omega];rfl
  ·rw [if_neg e2,if_pos e1.symm,if_pos zb];rfl
 ·rw [if_neg e1];by_cases e2:i=q
  ·rw [if_pos e2,if_pos e2.symm,if_pos (by rw [QX];omega)];rfl
  ·rw [if_neg e2,if_neg (Ne.symm e2),if_neg (Ne.symm e1),<-qQ]
theorem Zn {α:Type}(d:α){r q:Nat}{L:List α}(hr:r<L.length)(hq:q<L.length):(yq d r q L).Perm L:=by
 unfold yq;rw [show L.getD q d=L[q] by rw [qQ,qY hq];rfl,show L.getD r d=L[r] by rw [qQ,qY hr];rfl];exact List.set_set_perm hr hq
def wA (c:Nat)(e:yt):Nat:=(e.S.drop c).findIdx λrow=> !decide (row.getD c 0=0)
def ot (c:Nat)(e:yt):yt:=if wA c e=0 then e else⟨yq [] c (c+wA c e) e.S,yq 0 c (c+wA c e) e.T,yq 0 c (c+wA c e) e.P,-e.rd⟩
def vL (c:Nat)(p:Rat)(row by_:List Rat):List Rat:=row.take (c+1)++zT p⁻¹ (vZ (zT (by_.getD c 0) (row.drop (c+1))) (-row.getD c 0) (by_.drop (c+1)))
def wT (c:Nat)(S:List (List Rat)):List (List Rat):=S.mapIdx λi row=>if c<i then vL c (zD (zl S) c) row (S.getD c []) else row
def iw (c:Nat)(e:yt):yt:={ot c e with S:=wT c (ot c e).S}
def sn (M:List (List Rat)):yt:=⟨vm M,M.map zI,List.range M.length,vM M⟩
def xm (M:List (List Rat))(c:Nat):yt:=(List.range c).foldl (λe c=>iw c e) (sn M)
theorem V3 (M:List (List Rat))(c:Nat):xm M (c+1)=iw c (xm M c):=by
 unfold xm;rw [yL,yI];rfl
def aF (M:List (List Rat))(e:yt):Nat->Nat->Rat:=λi j=>e.T.getD i 0*zl M (e.P.getD i 0) j
structure z5 (n c K:Nat)(M:List (List Rat))(e:yt):Prop where
 dims:zO e.S n n
 tl:e.T.length=n
 perm:e.P.Perm (List.range n)
 tq:∀i,i<n->e.T.getD i 0=zI (M.getD (e.P.getD i 0) [])
 inv:wK n c (aF M e) (zl e.S)
 sz:wU n n c (aF M e) (zl e.S)
 li:∀i,i<n->∀j,j<n->LI (67+65*K) (zl e.S i j)
 det:zH n (aF M e)=e.rd*zH n (zl M)
 rd:e.rd=vM M\/e.rd= -vM M
theorem z5.pl {e:yt}(h:z5 n c K M e):e.P.length=n:=by rw [h.perm.length_eq,XJ]
theorem z5.pn {e:yt}(h:z5 n c K M e){i:Nat}(hi:i<n):e.P.getD i 0<n:=by
 have:e.P.getD i 0 ∈ List.range n:=h.perm.mem_iff.1 (lC (by rw [h.pl];exact hi));exact List.mem_range.1 this
theorem z5.tne {e:yt}(h:z5 n c K M e){i:Nat}(hi:i<n):e.T.getD i 0≠0:=by rw [h.tq i hi];exact dK (by decide+kernel)
theorem z5.rne {e:yt}(h:z5 n c K M e):e.rd≠0:=by
 have:=Rq M;rcases h.rd with e1|e1<;>rw [e1]<;>grind
theorem Ua (hM:zO M n m){i:Nat}(hi:i<n):M.getD i [] ∈ M:=QJ (wy (by have:=hM.rows;omega))
theorem z5.tli {e:yt}(h:z5 n c K M e)(hM:zO M n n)(hW:xc K M){i:Nat}(hi:i<n):LI K (e.T.getD i 0):=by
 rw [h.tq i hi];exact hW.q _ (Ua hM (h.pn hi))
theorem z5.ali {e:yt}(h:z5 n c K M e)(hM:zO M n n)(hW:xc K M):∀i,i<n->∀j,j<n->LI K (aF M e i j):=λi hi j hj=>by
 unfold aF;rw [h.tq i hi];refine hW.x _ (Ua hM (h.pn hi)) _ ?_;unfold zl;have:=hM.row (h.pn hi);exact QJ (wy (d:=0) zb)
theorem z5.start (hM:zO M n n)(hn:n<=64)(hW:xc K M):z5 n 0 K M (sn M):=by
 have hl:=hM.rows;have ha:∀i,i<n->∀j,aF M (sn M) i j=zl (vm M) i j:=λi hi j=>by
  unfold aF sn;rw [aZ hM hi];have q1:(M.map zI).getD i 0=zI (M.getD i []):=by rw [qQ,qN,wy (d:=[]) zb];rfl
  have q2:(List.range M.length).getD i 0=i:=by rw [qQ,xL zb];rfl
  show(M.map zI).getD i 0*zl M ((List.range M.length).getD i 0) j=_;rw [q1,q2]
 have hp:∀i,i<n->(sn M).P.getD i 0=i:=λi hi=>by
  show(List.range M.length).getD i 0=i;rw [qQ,xL zb];rfl
 have h0:wK n 0 (aF M (sn M)) (zl (vm M)):=by
  have:=wK.start n (zl (vm M));exact⟨this.cn,this.ne,λi hi j hj=>by rw [ha i hi j];exact this.eq i hi j hj⟩
 have h1:wU n n 0 (aF M (sn M)) (zl (vm M)):=by
  refine⟨aF M (sn M),xy.start n n _,λi _ hi j _ _=>ha i hi j⟩
 refine⟨SO hM,by show(M.map zI).length=n;rw [QH];exact hl,by show(List.range M.length).Perm _;rw [hl],λi hi=>?_,h0,h1,λi hi j hj=>(hW.at_ hM i hi j hj).up zb,?_,Or.inl rfl⟩
 ·rw [hp i hi];show(M.map zI).getD i 0=_;rw [qQ,qN,wy (d:=[]) zb];rfl
 ·rw [uh λi hi j _=>ha i hi j];exact Po hM
theorem TE {e:yt}(h:¬ wA c e<e.S.length - c){i:Nat}(h1:c<=i)(h2:i<e.S.length):zl e.S i c=0:=by
 have hl:(e.S.drop c).length=e.S.length - c:=xZ;have:=List.not_of_lt_findIdx (p:=λrow:List Rat=> !decide (row.getD c 0=0)) (xs:=e.S.drop c) (i:=i - c) (by show _<wA c e;omega);rw [fO zb,show c+(i - c)=i by omega] at this;simpa [zl] using this
theorem TF {c:Nat}{e:yt}(h:wA c e<e.S.length - c):zl e.S (c+wA c e) c≠0:=by
 have hl:(e.S.drop c).length=e.S.length - c:=xZ;have:=List.findIdx_getElem (p:=λrow:List Rat=> !decide (row.getD c 0=0)) (xs:=e.S.drop c) (w:=by show wA c e<_;omega);rw [fO (by show wA c e<_;omega)] at this;simpa [zl,wA] using this
theorem rQ {r q:Nat}(h:zO S n m)(hr:r<n)(hq:q<n):zO (yq [] r q S) n m:=by
 refine⟨by rw [og];exact h.rows,λL hL=>?_⟩;exact h.cols L ((Zn [] (by rw [h.rows];exact hr) (by rw [h.rows];exact hq)).mem_iff.1 hL)
theorem nD {r q:Nat}(hr:r<S.length)(hq:q<S.length):zl (yq [] r q S)=ym r q (zl S):=by
 funext i j
 unfold zl ym;rw [ju [] hr hq]
 split
 ·rfl
 ·split<;>rfl
theorem mN {r q:Nat}(h1:r<q)(h2:q<n)(a:Nat->Nat->Rat):zH n (ym r q a)= -zH n a:=by
 have e1:ym r q a=yc (yc a r (a q)) q (a r):=by
  funext i j
  unfold ym yc;by_cases e:i=r
  ·rw [if_pos e,if_neg zb,if_pos e]
  ·rw [if_neg e];by_cases e2:i=q
   ·rw [if_pos e2,if_pos e2]
   ·rw [if_neg e2,if_neg e2,if_neg e]
 have e2:yc (yc a r (a r)) q (a q)=a:=by rw [Vd,Vd]
 rw [e1,lu zb h2 zb (λM hM=>gQ h1 h2 hM) a (a q) (a r),e2]
theorem z5.pick {e:yt}(h:z5 n c K M e)(hb:wA c e<n - c):z5 n c K M (ot c e)/\zl (ot c e).S c c≠0:=by
 have hr:=h.dims.rows;have d:=TF (c:=c) (e:=e) (by rw [hr];exact hb);unfold ot;by_cases h0:wA c e=0
 ·rw [if_pos h0];rw [h0,XD] at d;exact⟨h,d⟩
 ·rw [if_neg h0];have hq:c+wA c e<n:=zb;have hc:c<n:=zb;have a:c<c+wA c e:=zb;generalize c+wA c e=q at*;have g:=h.tl;have hpl:=h.pl;have ea:aF M ⟨yq [] c q e.S,yq 0 c q e.T,yq 0 c q e.P,-e.rd⟩=ym c q (aF M e):=by
   funext i j
   unfold aF ym;show(yq 0 c q e.T).getD i 0*zl M ((yq 0 c q e.P).getD i 0) j=_;rw [ju 0 zb zb,ju 0 zb zb]
   split
   ·rfl
   ·split<;>rfl
  have es:zl (yq [] c q e.S)=ym c q (zl e.S):=nD zb zb;refine⟨⟨rQ h.dims hc hq,by show(yq 0 c q e.T).length=n;rw [og];exact g,(Zn 0 zb zb).trans h.perm,λi hi=>?_,?_,?_,λi hi j hj=>?_,?_,?_⟩,?_⟩
  ·show(yq 0 c q e.T).getD i 0=zI (M.getD ((yq 0 c q e.P).getD i 0) []);rw [ju 0 zb zb,ju 0 zb zb]
   split
   ·exact h.tq q hq
   ·split
    ·exact h.tq c hc
    ·exact h.tq i hi
  ·rw [ea];show wK n c _ (zl (yq [] c q e.S));rw [es];exact h.inv.xch_ a hq
  ·rw [ea];show wU n n c _ (zl (yq [] c q e.S));rw [es];exact h.sz.xch_ a hq
  ·show LI _ (zl (yq [] c q e.S) i j);rw [es];unfold ym
   split
   ·exact h.li q hq j hj
   ·split
    ·exact h.li c hc j hj
    ·exact h.li i hi j hj
  ·rw [ea,mN a hq,h.det];show -(e.rd*_)= -e.rd*_
   grind
  ·show -e.rd=_\/ -e.rd=_;rcases h.rd with e1|e1
   ·right;rw [e1]
   ·left;rw [e1];grind
  ·show zl (yq [] c q e.S) c c≠0;rw [es];unfold ym;rw [if_pos rfl];exact d
theorem fV {row:List Rat}(h:row.length=n)(k:by_.length=n)(hc:c<n):(vL c p row by_).length=n:=by
 unfold vL zT vZ;rw [qB,qA,QH,jX,QH,xZ,xZ,h,k];omega
theorem Xn {row:List Rat}(h:row.length=n)(k:by_.length=n)(hc:c<n)(hj:j<n):(vL c p row by_).getD j 0=if c<j then p⁻¹*(by_.getD c 0*row.getD j 0+ -row.getD c 0*by_.getD j 0) else row.getD j 0:=by
 unfold vL;have hl:(row.take (c+1)).length=c+1:=by rw [qA,h];omega
 by_cases e:c<j
 ·rw [if_pos e,qQ,qT zb,hl,<-qQ,oc];have e1:(zT (by_.getD c 0) (row.drop (c+1))).length=n - (c+1):=by unfold zT;rw [QH,xZ,h]
  have e2:(by_.drop (c+1)).length=n - (c+1):=by rw [xZ,k]
  rw [Zk zb zb,oc,ZC,ZC,show c+1+(j - (c+1))=j by omega]
 ·rw [if_neg e,qQ,QG zb,xD,if_pos zb,<-qQ]
theorem aP (hi:i<S.length):(wT c S).getD i []=if c<i then vL c (zD (zl S) c) (S.getD i []) (S.getD c []) else S.getD i []:=by
 unfold wT;rw [qQ,List.getElem?_mapIdx,qY hi];show(if c<i then _ else _)=_;rw [show S.getD i []=S[i] by rw [qQ,qY hi];rfl]
theorem SK (h:zO S n n)(hc:c<n):zO (wT c S) n n:=by
 refine⟨by unfold wT;rw [List.length_mapIdx];exact h.rows,λL hL=>?_⟩;unfold wT at hL;obtain⟨i,hi,rfl⟩:=List.mem_mapIdx.1 hL
 split
 ·exact fV (h.cols _ (xH _)) (h.row hc) hc
 ·exact h.cols _ (xH _)
theorem dO (h:zO S n n)(hc:c<n)(hi:i<n)(hj:j<n):zl (wT c S) i j=uv c (zl S) i j:=by
 unfold uv;show((wT c S).getD i []).getD j 0=_;rw [aP (by rw [h.rows];exact hi)];by_cases e:c<i
 ·rw [if_pos e,Xn (h.row hi) (h.row hc) hc hj];by_cases e2:c<j
  ·rw [if_pos e2,if_pos ⟨e,e2⟩];rfl
  ·rw [if_neg e2,if_neg λx=>e2 x.2];rfl
 ·rw [if_neg e,if_neg λx=>e x.1];rfl
theorem wK.congr {a s s':Nat->Nat->Rat}(h:wK n c a s)(e:∀i,i<n->∀j,j<n->s' i j=s i j):wK n c a s':=by
 have hc:=h.cn;have hp:∀k,k<=c->zD s' k=zD s k:=λk hk=>by
  unfold zD
  split
  ·rfl
  ·exact e _ zb _ zb
 refine⟨hc,λk hk=>by rw [e k zb k zb];exact h.ne k hk,λi hi j hj=>?_⟩;rw [h.eq i hi j hj,e i hi j hj,hp c (qX c)];congr 1;refine ya λk hk=>?_
 split
 ·unfold x6;rw [e i hi k zb,e k zb j hj,e k zb k zb,hp k zb]
 ·rfl
theorem z5.next {e:yt}(h:z5 n c K M e)(hM:zO M n n)(hn:n<=64)(hW:xc K M)(hb:wA c e<n - c):z5 n (c+1) K M (iw c e):=by
 obtain⟨hk,a⟩:=h.pick hb;have hc:c<n:=zb;unfold iw;generalize ot c e=f at*;have ea:aF M {f with S:=wT c f.S}=aF M f:=rfl;have el:∀i,i<n->∀j,j<n->zl (wT c f.S) i j=uv c (zl f.S) i j:=λi hi j hj=>dO hk.dims hc hi hj;have hs:wU n n (c+1) (aF M f) (zl (wT c f.S)):=hk.sz.step hc hc a (λi h1 h2 j h3 h4=>by rw [el i h2 j h4];unfold uv;rw [if_pos ⟨h1,h3⟩]) (by rw [el c hc c hc];unfold uv;rw [if_neg zb]);refine⟨SK hk.dims hc,hk.tl,hk.perm,hk.tq,?_,hs,λi hi j hj=>?_,hk.det,hk.rd⟩
 ·exact(hk.inv.step hc a).congr el
 ·show LI _ (zl (wT c f.S) i j);by_cases e1:c<i/\c<j
  ·exact hs.at_ hn (hk.ali hM hW) e1.1 hi e1.2 hj
  ·rw [el i hi j hj];unfold uv;rw [if_neg e1];exact hk.li i hi j hj
def ti (n:Nat)(M:List (List Rat))(c:Nat):Prop:=∀k,k<c->wA k (xm M k)<n - k
theorem fM {n K:Nat}{M:List (List Rat)}(hM:zO M n n)(hn:n<=64)(hW:xc K M):∀{c:Nat},ti n M c->z5 n c K M (xm M c)
 |0,_=>z5.start hM hn hW
 |c+1,h=>by
   rw [V3];exact(fM hM hn hW λk hk=>h k zb).next hM hn hW (h c zb)
theorem ku (h:z5 n n K M (xm M n)):zD (zl (xm M n).S) n=(xm M n).rd*zH n (zl M):=by rw [h.sz.det,h.det]
theorem nS (h:z5 n c K M (xm M c))(hc:c<n)(hb:¬ wA c (xm M c)<n - c):zH n (zl M)=0:=by
 have hr:=h.dims.rows;have h1:=h.sz.none hc λi h1 h2=>TE (by rw [hr];exact hb) h1 (by rw [hr];exact h2);rw [h.det] at h1;have:=h.rne
 grind
set_option maxRecDepth 100000
def zJ (h:Nat)(w w':World):Prop:=zP h w w'/\∀q t cs,q≠h->zh w q t cs->zh w' q t cs
theorem zJ.set_ (h i:Nat)(w:World)(v:Value):zJ h w (w.setCell ⟨h,i,none⟩ v):=⟨zP.of_far ((yb.refl h w).set_ i v),λq t cs hq hk=>zh.far (p:=⟨h,i,none⟩) hk hq v⟩
theorem zJ.trans {w1 w2:World}(a:zJ h w w1)(b:zJ h w1 w2):zJ h w w2:=
 ⟨⟨qH a.1.1 b.1.1,λp hp hq=>(b.1.2 p (qJ hp a.1.1) hq).trans (a.1.2 p hp hq)⟩,λq t cs hq hk=>b.2 q t cs hq (a.2 q t cs hq hk)⟩
theorem zJ.grown (hg:w.grownBy w' (some h)):zJ h w w':=⟨zP.of_grown hg,λq t cs hq hk=>(hg.block q hk.lt (λe=>hq (Option.some.inj e))).trans hk⟩
theorem zJ.row (hk:zh w h t cs):zJ h w (w.setRow h ds):=
 ⟨⟨zA,λp hp hq=>by
  unfold World.cell?;simp only [setRow_other w h p.block ds hq]⟩,λq t' cs' hq a=>(setRow_other w h q ds hq).trans a⟩
theorem y3 (h:zV cs):ua .u64 cs:=λv hv z e=>h v hv .u64 z e
theorem yh.turn {q:Nat}{L:List Rat}(hv:yh w q m L)(ht:zJ h w w')(hk:zh w h t cs)(hn:ua .u64 cs)(hq:q≠h):yh w' q m L:=by
 refine⟨hv.len,?_,λi x hi=>?_⟩
 ·obtain⟨ds,h1,h2,h3⟩:=hv.blk;exact⟨ds,ht.2 _ _ _ hq h1,h2,h3⟩
 ·obtain⟨b,B,k,d,F,u,v,h1,h2,h3,h4⟩:=hv.num i x hi;have hl:=hv.lt;exact⟨b,B,k,d,F,u,v,(ht.1.2 _ hl hq).trans h1,(ht.1.2 _ hl hq).trans h2,(ht.1.2 _ hl hq).trans h3,yy hk hn ht.1 h4⟩
theorem y6.turn {xs:List Rat}{us:List Value}(hr:y6 zo w c s v xs us)(ht:zJ h w w')(hk:zh w h t cs)(hn:ua .u64 cs)(hq:v.ownBlock≠some h):y6 zo w' c s v xs us:=by
 refine⟨⟨hr.own.1,?_⟩,λq e=>?_,λi x hi=>?_⟩
 ·rcases hr.own.2 with h1|⟨g,cap,a,e1,e2,e3,e4⟩
  ·exact .inl h1
  ·exact .inr ⟨g,cap,a,e1,e2,ht.2 g s a (λe=>hq (by rw [e1,<-e];rfl)) e3,e4⟩
 ·obtain⟨a,s',h1,h2⟩:=hr.nou q e;exact⟨a,s',ht.2 q s' a (λe'=>hq (by rw [e,e'])) h1,h2⟩
 ·obtain⟨b,B,k,d,F,u,f,h1,h2,h3,h4⟩:=hr.num i x hi;exact⟨b,B,k,d,F,u,f,h1,h2,h3,yy hk hn ht.1 h4⟩
theorem ws.turn {a:Nat}{ld:List Nat}(hl:ws w a v ld)(ht:zJ h w w')(hq:v.ownBlock≠some h):ws w' a v ld:=
 hl.off λg s cs e hk=>ht.2 g s cs (λe'=>hq (by rw [e,e'])) hk
theorem WQ (h:qs.Nodup){i j:Nat}(hi:i<qs.length)(hj:j<qs.length)(e:qs[i]=qs[j]):i=j:=by
 have h2:=List.pairwise_iff_getElem.1 h;rcases XK i j with a|a|a
 ·exact absurd e (h2 i j hi hj a)
 ·exact a
 ·exact absurd e.symm (h2 j i hj hi a)
def uz (m:Nat)(qs:List Nat):List Value:=qs.map λq=>.slice (some ⟨q,0,none⟩) m m
structure vw (w:World)(g:Nat)(v:Value)(m:Nat)(S:List (List Rat))(qs:List Nat):Prop where
 own:w.ownsRow g 41 1 v S.length (uz m qs)
 sl:wm w v
 len:qs.length=S.length
 row:∀i,i<S.length->yh w (qs.getD i 0) m (S.getD i [])
 lo:∀q ∈ qs,g<q
 nd:qs.Nodup
theorem vw.nil (w:World)(g m:Nat):vw w g (.slice none 0 0) m [] []:=⟨XO _ _ _ _,wm.nil _ _,rfl,λi hi=>absurd hi (Nat.not_lt_zero i),λq hq=>(by cases hq),List.nodup_nil⟩
theorem vw.at_ (h:vw w g v m S qs){q:Nat}(hq:v.ownBlock=some q):g<=q/\∃cs,zh w q 41 cs/\∀u ∈ cs.toList,xp u:=by
 rcases h.own.2 with⟨h1,_⟩|⟨g',cap,cur,e1,e2,e3,_⟩
 ·rw [h1] at hq;cases hq
 ·rw [e1] at hq;simp [Value.ownBlock] at hq;subst hq;obtain⟨a,s,h1,h2⟩:=h.sl g' (by rw [e1];rfl);have:a=cur:=by rw [e3] at h1;injection h1 with h1;injection h1 with h1 _;exact h1.symm
  subst this;exact⟨e2,a,e3,h2⟩
theorem vw.turn (hr:vw w g v m S qs)(ht:zJ h w w')(hk:zh w h t cs)(hn:ua .u64 cs)(hv:v.ownBlock≠some h)(hq:h ∉ qs):vw w' g v m S qs where
 own:=⟨hr.own.1,by
  rcases hr.own.2 with h1|⟨g',cap,a,e1,e2,e3,e4⟩
  ·exact .inl h1
  ·exact .inr ⟨g',cap,a,e1,e2,ht.2 g' _ a (λe=>hv (by rw [e1,<-e];rfl)) e3,e4⟩⟩
 sl:=λq e=>by
  obtain⟨a,s',h1,h2⟩:=hr.sl q e;exact⟨a,s',ht.2 q s' a (λe'=>hv (by rw [e,e'])) h1,h2⟩
 len:=hr.len
 row:=λi hi=>(hr.row i hi).turn ht hk hn (λe=>hq (by rw [<-e];exact lC (by rw [hr.len];exact hi)))
 lo:=hr.lo
 nd:=hr.nd
theorem vw.below (hr:vw w g v m S qs)(hb:Below w.heap.size w w'):vw w' g v m S qs where
 own:=⟨hr.own.1,by
  rcases hr.own.2 with h1|⟨g',cap,cur,e1,e2,e3,e4⟩
  ·exact .inl h1
  ·exact .inr ⟨g',cap,cur,e1,e2,zg hb e3,e4⟩⟩
 sl:=hr.sl.below hb
 len:=hr.len
 row:=λi hi=>(hr.row i hi).keep hb
 lo:=hr.lo
 nd:=hr.nd
theorem vw.shape (h:vw w g v m S qs){n:Nat}(hn:S.length=n)(hm:m<=9223372036854775807):∃A c,v=.slice A n c/\n<=c/\c<=9223372036854775807/\yx (z8 zo) w A n S/\(∀ad,A=some ad->g<=ad.block)/\
  ∀i,i<n->∃q,A=some ⟨q,0,none⟩/\w.cell? ⟨q,i,none⟩=some (.slice (some ⟨qs.getD i 0,0,none⟩) m m):=by
 subst hn;have hl:=h.len;rcases h.own.2 with⟨rfl,h0⟩|⟨q,cap,cur,rfl,hbg,hg,hnc,hcm,hcs,htake⟩
 ·have hS:S=[]:=QU h0;subst hS;exact⟨none,0,rfl,qX _,zf,yx.nil w none,(λad e=>by cases e),λi hi=>by simp at hi⟩
 ·have a:=h.own.cells (g:=q) rfl;have d:∀i,i<S.length->w.cell? ((⟨q,0,none⟩:Addr).add i)=some (.slice (some ⟨qs.getD i 0,0,none⟩) m m):=λi hi=>a i _ (by
   unfold uz;rw [qN,qQ,qY zb];rfl)
  refine⟨some ⟨q,0,none⟩,cap,rfl,hnc,by unfold maxLen at hcm;omega,⟨rfl,λi L hi=>?_⟩,(λad e=>by injection e with e;subst e;exact hbg),λi hi=>⟨q,rfl,by have:=d i hi;rw [xk] at this;exact this⟩⟩;have j:=(List.getElem?_eq_some_iff.1 hi).1;have hL:S.getD i []=L:=by rw [qQ,hi];rfl
  have hv:=(h.row i j);rw [hL] at hv;have k:=hv.len;exact⟨_,_,_,rfl,(zh.lt hg:q<_),by rw [k];exact d i j,by rw [k];exact wn.row hv hm⟩
structure zw (w:World)(g m:Nat)(e:yt)(A:ze)(n cA:Nat)(B:ze)(k cB:Nat)(D:ze)(l cD:Nat)(x0 x1 x2:Value)(qs:List Nat):Prop where
 blk:zh w g 77 #[.slice A n cA,.slice B k cB,.slice D l cD,x0,x1,x2]
 hn:e.S.length=n
 hk:e.T.length=k
 hl:e.P.length=l
 rows:vw w g (.slice A n cA) m e.S qs
 times:∃us,y6 zo w g 52 (.slice B k cB) e.T us
 perm:ws w g (.slice D l cD) e.P
 rsd:RV w e.rd x0 x1 x2
 tq:∀q,(Value.slice B k cB).ownBlock=some q->q ∉ qs
section
variable {w w':World}{g m:Nat}{e:yt}{A:ze}{n cA:Nat}{B:ze}{k cB:Nat}{D:ze}{l cD:Nat}{x0 x1 x2:Value}{qs:List Nat}
theorem zw.below (h:zw w g m e A n cA B k cB D l cD x0 x1 x2 qs)(hb:Below w.heap.size w w'):zw w' g m e A n cA B k cB D l cD x0 x1 x2 qs:=by
 obtain⟨us,hu⟩:=h.times;exact{blk:=zg hb h.blk,hn:=h.hn,hk:=h.hk,hl:=h.hl,rows:=h.rows.below hb,times:=⟨us,hu.below zZ hb⟩,perm:=h.perm.off λq s cs _ hq=>zg hb hq,rsd:=h.rsd.below hb,tq:=h.tq}
theorem zw.nok (h:zw w g m e A n cA B k cB D l cD x0 x1 x2 qs):ua .u64 #[.slice A n cA,.slice B k cB,.slice D l cD,x0,x1,x2]:=by
 obtain⟨_,_,_,_,_,_,_,rfl,rfl,rfl,_⟩:=h.rsd;intro v hv z e;simp at hv;rcases hv with rfl|rfl|rfl|rfl|rfl|rfl<;>cases e
theorem zw.lt (h:zw w g m e A n cA B k cB D l cD x0 x1 x2 qs):g<w.heap.size:=h.blk.lt
theorem zw.atB (h:zw w g m e A n cA B k cB D l cD x0 x1 x2 qs){q:Nat}(hq:(Value.slice B k cB).ownBlock=some q):g<=q/\∃cs,zh w q 52 cs/\zV cs:=by
 obtain⟨us,hu⟩:=h.times;rcases hu.own.2 with⟨h1,_⟩|⟨g',cap,cur,e1,e2,e3,_⟩
 ·rw [h1] at hq;cases hq
 ·rw [e1] at hq;simp [Value.ownBlock] at hq;subst hq;obtain⟨a,s,h1,h2⟩:=hu.nou g' (by rw [e1];rfl);have:a=cur:=by rw [e3] at h1;injection h1 with h1;injection h1 with h1 _;exact h1.symm
  subst this;exact⟨e2,a,e3,λu hu k z=>h2 u hu k z⟩
theorem zw.atD (h:zw w g m e A n cA B k cB D l cD x0 x1 x2 qs){q:Nat}(hq:(Value.slice D l cD).ownBlock=some q):g<=q/\∃cs,zh w q 3 cs/\∀u ∈ cs.toList,lN u:=by
 rcases h.perm.own.2 with⟨h1,_⟩|⟨g',cap,cur,e1,e2,e3,_⟩
 ·rw [h1] at hq;cases hq
 ·rw [e1] at hq;simp [Value.ownBlock] at hq;subst hq;obtain⟨a,s,h1,h2⟩:=h.perm.pr g' (by rw [e1];rfl);have:a=cur:=by rw [e3] at h1;injection h1 with h1;injection h1 with h1 _;exact h1.symm
  subst this;exact⟨e2,a,e3,h2⟩
theorem zw.atQ (h:zw w g m e A n cA B k cB D l cD x0 x1 x2 qs){q:Nat}(hq:q ∈ qs):g<q/\∃cs,zh w q 52 cs/\zV cs:=by
 obtain⟨i,hi,rfl⟩:=Zf hq;obtain⟨cs,h1,h2,_⟩:=(h.rows.row i (by rw [<-h.rows.len];exact hi)).blk;exact⟨h.rows.lo _ hq,cs,h1,h2⟩
theorem xi {q:Nat}(a:zh w q t cs)(b:zh w h s ds)(hn:t≠s):q≠h:=λe=>hn (by subst e;exact ir a b)
theorem zw.store (h:zw w g m e A n cA B k cB D l cD x0 x1 x2 qs)(ht:zJ g w w'){A':ze}{n' cA':Nat}{B':ze}{k' cB':Nat}{D':ze}{l' cD':Nat}:vw w' g (.slice A n cA) m e.S qs/\(∃us,y6 zo w' g 52 (.slice B k cB) e.T us)/\ws w' g (.slice D l cD) e.P/\RV w' e.rd x0 x1 x2:=by
 obtain⟨us,hu⟩:=h.times;refine⟨h.rows.turn ht h.blk h.nok (λe=>?_) (λe=>?_),⟨us,hu.turn ht h.blk h.nok λe=>?_⟩,h.perm.turn ht λe=>?_,h.rsd.off h.blk h.nok ht.1⟩
 ·obtain⟨_,cs,h1,_⟩:=h.rows.at_ e;exact xi h1 h.blk zf rfl
 ·have:=h.rows.lo _ e;omega
 ·obtain⟨_,cs,h1,_⟩:=h.atB e;exact xi h1 h.blk zf rfl
 ·obtain⟨_,cs,h1,_⟩:=h.atD e;exact xi h1 h.blk zf rfl
theorem zw.turnA (h:zw w g m e A n cA B k cB D l cD x0 x1 x2 qs){q:Nat}(hq:(Value.slice A n cA).ownBlock=some q)(ht:zJ q w w'):zh w' g 77 #[.slice A n cA,.slice B k cB,.slice D l cD,x0,x1,x2]/\(∃us,y6 zo w' g 52 (.slice B k cB) e.T us)/\ws w' g (.slice D l cD) e.P/\RV w' e.rd x0 x1 x2/\∀i,i<e.S.length->yh w' (qs.getD i 0) m (e.S.getD i []):=by
 obtain⟨us,hu⟩:=h.times;obtain⟨_,cs,hk,hs⟩:=h.rows.at_ hq;refine⟨ht.2 _ _ _ (Ne.symm (xi hk h.blk zf)) h.blk,⟨us,hu.turn ht hk (oP hs) λe=>?_⟩,h.perm.turn ht (λe=>?_),h.rsd.off hk (oP hs) ht.1,λi hi=>(h.rows.row i hi).turn ht hk (oP hs) ?_⟩
 ·obtain⟨_,ds,h1,_⟩:=h.atB e;exact xi h1 hk zf rfl
 ·obtain⟨_,ds,h1,_⟩:=h.atD e;exact xi h1 hk zf rfl
 ·obtain⟨_,ds,h1,_⟩:=h.atQ (q:=qs.getD i 0) (lC (by rw [h.rows.len];exact hi));exact xi h1 hk zf
theorem zw.turnB (h:zw w g m e A n cA B k cB D l cD x0 x1 x2 qs){q:Nat}(hq:(Value.slice B k cB).ownBlock=some q)(ht:zJ q w w'):zh w' g 77 #[.slice A n cA,.slice B k cB,.slice D l cD,x0,x1,x2]/\vw w' g (.slice A n cA) m e.S qs/\ws w' g (.slice D l cD) e.P/\RV w' e.rd x0 x1 x2:=by
 obtain⟨_,cs,hk,hs⟩:=h.atB hq;refine⟨ht.2 _ _ _ (Ne.symm (xi hk h.blk zf)) h.blk,h.rows.turn ht hk (y3 hs) (λe=>?_) (h.tq q hq),h.perm.turn ht (λe=>?_),h.rsd.off hk (y3 hs) ht.1⟩
 ·obtain⟨_,ds,h1,_⟩:=h.rows.at_ e;exact xi h1 hk zf rfl
 ·obtain⟨_,ds,h1,_⟩:=h.atD e;exact xi h1 hk zf rfl
theorem zw.turnD (h:zw w g m e A n cA B k cB D l cD x0 x1 x2 qs){q:Nat}(hq:(Value.slice D l cD).ownBlock=some q)(ht:zJ q w w'):zh w' g 77 #[.slice A n cA,.slice B k cB,.slice D l cD,x0,x1,x2]/\vw w' g (.slice A n cA) m e.S qs/\(∃us,y6 zo w' g 52 (.slice B k cB) e.T us)/\RV w' e.rd x0 x1 x2:=by
 obtain⟨us,hu⟩:=h.times;obtain⟨_,cs,hk,hs⟩:=h.atD hq;refine⟨ht.2 _ _ _ (Ne.symm (xi hk h.blk zf)) h.blk,h.rows.turn ht hk (dU hs) (λe=>?_) (λe=>?_),⟨us,hu.turn ht hk (dU hs) λe=>?_⟩,h.rsd.off hk (dU hs) ht.1⟩
 ·obtain⟨_,ds,h1,_⟩:=h.rows.at_ e;exact xi h1 hk zf rfl
 ·obtain⟨_,ds,h1,_⟩:=h.atQ e;exact xi h1 hk zf rfl
 ·obtain⟨_,ds,h1,_⟩:=h.atB e;exact xi h1 hk zf rfl
theorem zw.turnQ (h:zw w g m e A n cA B k cB D l cD x0 x1 x2 qs){i:Nat}(hi:i<n){L:List Rat}(ht:zJ (qs.getD i 0) w w')(hv:yh w' (qs.getD i 0) m L):zw w' g m {e with S:=e.S.set i L} A n cA B k cB D l cD x0 x1 x2 qs:=by
 obtain⟨us,hu⟩:=h.times;have a:=h.rows.len;have d:i<e.S.length:=by rw [h.hn];exact hi
 have c:qs.getD i 0 ∈ qs:=lC zb;obtain⟨_,cs,hk,hs⟩:=h.atQ c;exact {
  blk:=ht.2 _ _ _ (Ne.symm (xi hk h.blk zf)) h.blk
  hn:=by rw [<-h.hn];exact QX
  hk:=h.hk
  hl:=h.hl
  rows:={
   own:=⟨by show(uz m qs).length=(e.S.set i L).length*1;rw [QX];exact h.rows.own.1,by
    show _\/_;rw [QX];rcases h.rows.own.2 with h1|⟨g',cap,cur,e1,e2,e3,e4⟩
    ·exact .inl h1
    ·exact .inr ⟨g',cap,cur,e1,e2,ht.2 g' _ cur (xi e3 hk zf) e3,e4⟩⟩
   sl:=λq e=>by
    obtain⟨cur,s',h1,h2⟩:=h.rows.sl q e;obtain⟨_,ds,h3,_⟩:=h.rows.at_ e;exact⟨cur,s',ht.2 q s' cur (xi h3 hk zf) h1,h2⟩
   len:=by show qs.length=(e.S.set i L).length;rw [QX];exact a
   row:=λj hj=>by
    have hj:j<(e.S.set i L).length:=hj;rw [QX] at hj;by_cases hij:j=i
    ·subst hij;rw [bR _ d];exact hv
    ·rw [fU _ hij];refine(h.rows.row j hj).turn ht hk (y3 hs) λe=>hij ?_;have h1:qs[j]?=some (qs.getD j 0):=wy zb;have h2:qs[i]?=some (qs.getD i 0):=wy zb;rw [qY zb] at h1 h2;injection h1 with h1;injection h2 with h2;exact WQ h.rows.nd zb zb (h1.trans (e.trans h2.symm))
   lo:=h.rows.lo
   nd:=h.rows.nd}
  times:=⟨us,hu.turn ht hk (y3 hs) λe=>h.tq _ e c⟩
  perm:=h.perm.turn ht λe=>by obtain⟨_,ds,h1,_⟩:=h.atD e;exact xi h1 hk zf rfl
  rsd:=h.rsd.off hk (y3 hs) ht.1
  tq:=h.tq}
end
