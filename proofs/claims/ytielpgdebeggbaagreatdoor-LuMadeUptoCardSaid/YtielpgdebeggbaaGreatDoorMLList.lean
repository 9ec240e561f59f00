/- What this claim leans on. -/
import Derived.Test.YtielpgdebeggbaaGreatDoorMEDetW
import Derived.Laws.CopyRow
set_option linter.unusedVariables false
set_option linter.unusedSimpArgs false
namespace Go.Proofs.YtielpgdebeggbaaGreatDoor
open Go Go.RowKit
set_option maxHeartbeats 16000000
variable {cs ds:Array Value}{M S:List (List Rat)}{qs:List Nat}{by_:List Rat}{K c g h i j m n:Nat}{p:Rat}{s t:TypeId}{v:Value}{w w':World}
structure yF where
 S:List (List Rat)
 T:List Rat
 P:List Nat
 rd:Rat
def yq {α:Type}(d:α)(r q:Nat)(L:List α):List α:=(L.set r (L.getD q d)).set q (L.getD r d)
theorem oS {α:Type}(d:α)(r q:Nat)(L:List α):(yq d r q L).length=L.length:=by unfold yq;rw [QY,QY]
theorem iq {α:Type}(d:α){r q:Nat}{L:List α}(hr:r<L.length)(hq:q<L.length)(i:Nat):(yq d r q L).getD i d=if i=r then L.getD q d else if i=q then L.getD r d else L.getD i d:=by
 unfold yq;rw [qQ,List.getElem?_set,List.getElem?_set];by_cases e1:i=r
 ·rw [if_pos e1];by_cases e2:q=i
  ·rw [if_pos e2,if_pos (by rw [QY];omega),show q=r by omega];rfl
  ·rw [if_neg e2,if_pos e1.symm,if_pos za];rfl
 ·rw [if_neg e1];by_cases e2:i=q
  ·rw [if_pos e2,if_pos e2.symm,if_pos (by rw [QY];omega)];rfl
  ·rw [if_neg e2,if_neg (Ne.symm e2),if_neg (Ne.symm e1),<-qQ]
theorem Z6 {α:Type}(d:α){r q:Nat}{L:List α}(hr:r<L.length)(hq:q<L.length):(yq d r q L).Perm L:=by
 unfold yq;rw [show L.getD q d=L[q] by rw [qQ,qY hq];rfl,show L.getD r d=L[r] by rw [qQ,qY hr];rfl];exact List.set_set_perm hr hq
def wH (c:Nat)(e:yF):Nat:=(e.S.drop c).findIdx λrow=> !decide (row.getD c 0=0)
def o5 (c:Nat)(e:yF):yF:=if wH c e=0 then e else⟨yq [] c (c+wH c e) e.S,yq 0 c (c+wH c e) e.T,yq 0 c (c+wH c e) e.P,-e.rd⟩
def uu (c:Nat)(p:Rat)(row by_:List Rat):List Rat:=row.take (c+1)++zL p⁻¹ (vV (zL (by_.getD c 0) (row.drop (c+1))) (-row.getD c 0) (by_.drop (c+1)))
def ve (c:Nat)(S:List (List Rat)):List (List Rat):=S.mapIdx λi row=>if c<i then uu c (zI (zl S) c) row (S.getD c []) else row
def gL (c:Nat)(e:yF):yF:={o5 c e with S:=ve c (o5 c e).S}
def sK (M:List (List Rat)):yF:=⟨xp M,M.map zG,List.range M.length,x5 M⟩
def xh (M:List (List Rat))(c:Nat):yF:=(List.range c).foldl (λe c=>gL c e) (sK M)
theorem UX (M:List (List Rat))(c:Nat):xh M (c+1)=gL c (xh M c):=by
 unfold xh;rw [XE,yH];rfl
def aF (M:List (List Rat))(e:yF):Nat->Nat->Rat:=λi j=>e.T.getD i 0*zl M (e.P.getD i 0) j
structure ym (n c K:Nat)(M:List (List Rat))(e:yF):Prop where
 dims:zM e.S n n
 tl:e.T.length=n
 perm:e.P.Perm (List.range n)
 tq:∀i,i<n->e.T.getD i 0=zG (M.getD (e.P.getD i 0) [])
 inv:wV n c (aF M e) (zl e.S)
 sz:vg n n c (aF M e) (zl e.S)
 li:∀i,i<n->∀j,j<n->LI (67+65*K) (zl e.S i j)
 det:zB n (aF M e)=e.rd*zB n (zl M)
 rd:e.rd=x5 M\/e.rd= -x5 M
theorem ym.pl {e:yF}(h:ym n c K M e):e.P.length=n:=by rw [h.perm.length_eq,XD]
theorem ym.pn {e:yF}(h:ym n c K M e){i:Nat}(hi:i<n):e.P.getD i 0<n:=by
 have:e.P.getD i 0 ∈ List.range n:=h.perm.mem_iff.1 (tW (by rw [h.pl];exact hi));exact List.mem_range.1 this
theorem ym.tne {e:yF}(h:ym n c K M e){i:Nat}(hi:i<n):e.T.getD i 0≠0:=by rw [h.tq i hi];exact eI (by decide+kernel)
theorem ym.rne {e:yF}(h:ym n c K M e):e.rd≠0:=by
 have:=cI M;rcases h.rd with e1|e1<;>rw [e1]<;>grind
theorem UZ (hM:zM M n m){i:Nat}(hi:i<n):M.getD i [] ∈ M:=QX (ws (by have:=hM.rows;omega))
theorem ym.tli {e:yF}(h:ym n c K M e)(hM:zM M n n)(hW:yy K M){i:Nat}(hi:i<n):LI K (e.T.getD i 0):=by
 rw [h.tq i hi];exact hW.q _ (UZ hM (h.pn hi))
theorem ym.ali {e:yF}(h:ym n c K M e)(hM:zM M n n)(hW:yy K M):∀i,i<n->∀j,j<n->LI K (aF M e i j):=λi hi j hj=>by
 unfold aF;rw [h.tq i hi];refine hW.x _ (UZ hM (h.pn hi)) _ ?_;unfold zl;have:=hM.row (h.pn hi);exact QX (ws (d:=0) za)
theorem ym.start (hM:zM M n n)(hn:n<=64)(hW:yy K M):ym n 0 K M (sK M):=by
 have hl:=hM.rows;have ha:∀i,i<n->∀j,aF M (sK M) i j=zl (xp M) i j:=λi hi j=>by
  unfold aF sK;rw [bD hM hi];have q1:(M.map zG).getD i 0=zG (M.getD i []):=by rw [qQ,qW,ws (d:=[]) za];rfl
  have q2:(List.range M.length).getD i 0=i:=by rw [qQ,xB za];rfl
  show(M.map zG).getD i 0*zl M ((List.range M.length).getD i 0) j=_;rw [q1,q2]
 have hp:∀i,i<n->(sK M).P.getD i 0=i:=λi hi=>by
  show(List.range M.length).getD i 0=i;rw [qQ,xB za];rfl
 have h0:wV n 0 (aF M (sK M)) (zl (xp M)):=by
  have:=wV.start n (zl (xp M));exact⟨this.cn,this.ne,λi hi j hj=>by rw [ha i hi j];exact this.eq i hi j hj⟩
 have h1:vg n n 0 (aF M (sK M)) (zl (xp M)):=by
  refine⟨aF M (sK M),xt.start n n _,λi _ hi j _ _=>ha i hi j⟩
 refine⟨Zr hM,by show(M.map zG).length=n;rw [QH];exact hl,by show(List.range M.length).Perm _;rw [hl],λi hi=>?_,h0,h1,λi hi j hj=>(hW.at_ hM i hi j hj).up za,?_,Or.inl rfl⟩
 ·rw [hp i hi];show(M.map zG).getD i 0=_;rw [qQ,qW,ws (d:=[]) za];rfl
 ·rw [vQ λi hi j _=>ha i hi j];exact VR hM
theorem Rb {e:yF}(h:¬ wH c e<e.S.length - c){i:Nat}(h1:c<=i)(h2:i<e.S.length):zl e.S i c=0:=by
 have hl:(e.S.drop c).length=e.S.length - c:=QE;have:=List.not_of_lt_findIdx (p:=λrow:List Rat=> !decide (row.getD c 0=0)) (xs:=e.S.drop c) (i:=i - c) (by show _<wH c e;omega);rw [dQ za,show c+(i - c)=i by omega] at this;simpa [zl] using this
theorem Rc {c:Nat}{e:yF}(h:wH c e<e.S.length - c):zl e.S (c+wH c e) c≠0:=by
 have hl:(e.S.drop c).length=e.S.length - c:=QE;have:=List.findIdx_getElem (p:=λrow:List Rat=> !decide (row.getD c 0=0)) (xs:=e.S.drop c) (w:=by show wH c e<_;omega);rw [dQ (by show wH c e<_;omega)] at this;simpa [zl,wH] using this
theorem qn {r q:Nat}(h:zM S n m)(hr:r<n)(hq:q<n):zM (yq [] r q S) n m:=by
 refine⟨by rw [oS];exact h.rows,λL hL=>?_⟩;exact h.cols L ((Z6 [] (by rw [h.rows];exact hr) (by rw [h.rows];exact hq)).mem_iff.1 hL)
theorem mj {r q:Nat}(hr:r<S.length)(hq:q<S.length):zl (yq [] r q S)=yn r q (zl S):=by
 funext i j
 unfold zl yn;rw [iq [] hr hq]
 split
 ·rfl
 ·split<;>rfl
theorem lF {r q:Nat}(h1:r<q)(h2:q<n)(a:Nat->Nat->Rat):zB n (yn r q a)= -zB n a:=by
 have e1:yn r q a=z7 (z7 a r (a q)) q (a r):=by
  funext i j
  unfold yn z7;by_cases e:i=r
  ·rw [if_pos e,if_neg za,if_pos e]
  ·rw [if_neg e];by_cases e2:i=q
   ·rw [if_pos e2,if_pos e2]
   ·rw [if_neg e2,if_neg e2,if_neg e]
 have e2:z7 (z7 a r (a r)) q (a q)=a:=by rw [cY,cY]
 rw [e1,pZ za h2 za (λM hM=>iM h1 h2 hM) a (a q) (a r),e2]
theorem ym.pick {e:yF}(h:ym n c K M e)(hb:wH c e<n - c):ym n c K M (o5 c e)/\zl (o5 c e).S c c≠0:=by
 have hr:=h.dims.rows;have d:=Rc (c:=c) (e:=e) (by rw [hr];exact hb);unfold o5;by_cases h0:wH c e=0
 ·rw [if_pos h0];rw [h0,XH] at d;exact⟨h,d⟩
 ·rw [if_neg h0];have hq:c+wH c e<n:=za;have hc:c<n:=za;have a:c<c+wH c e:=za;generalize c+wH c e=q at*;have g:=h.tl;have hpl:=h.pl;have ea:aF M ⟨yq [] c q e.S,yq 0 c q e.T,yq 0 c q e.P,-e.rd⟩=yn c q (aF M e):=by
   funext i j
   unfold aF yn;show(yq 0 c q e.T).getD i 0*zl M ((yq 0 c q e.P).getD i 0) j=_;rw [iq 0 za za,iq 0 za za]
   split
   ·rfl
   ·split<;>rfl
  have es:zl (yq [] c q e.S)=yn c q (zl e.S):=mj za za;refine⟨⟨qn h.dims hc hq,by show(yq 0 c q e.T).length=n;rw [oS];exact g,(Z6 0 za za).trans h.perm,λi hi=>?_,?_,?_,λi hi j hj=>?_,?_,?_⟩,?_⟩
  ·show(yq 0 c q e.T).getD i 0=zG (M.getD ((yq 0 c q e.P).getD i 0) []);rw [iq 0 za za,iq 0 za za]
   split
   ·exact h.tq q hq
   ·split
    ·exact h.tq c hc
    ·exact h.tq i hi
  ·rw [ea];show wV n c _ (zl (yq [] c q e.S));rw [es];exact h.inv.xch_ a hq
  ·rw [ea];show vg n n c _ (zl (yq [] c q e.S));rw [es];exact h.sz.xch_ a hq
  ·show LI _ (zl (yq [] c q e.S) i j);rw [es];unfold yn
   split
   ·exact h.li q hq j hj
   ·split
    ·exact h.li c hc j hj
    ·exact h.li i hi j hj
  ·rw [ea,lF a hq,h.det];show -(e.rd*_)= -e.rd*_
   grind
  ·show -e.rd=_\/ -e.rd=_;rcases h.rd with e1|e1
   ·right;rw [e1]
   ·left;rw [e1];grind
  ·show zl (yq [] c q e.S) c c≠0;rw [es];unfold yn;rw [if_pos rfl];exact d
theorem dZ {row:List Rat}(h:row.length=n)(k:by_.length=n)(hc:c<n):(uu c p row by_).length=n:=by
 unfold uu zL vV;rw [qB,qE,QH,jY,QH,QE,QE,h,k];omega
theorem Vj {row:List Rat}(h:row.length=n)(k:by_.length=n)(hc:c<n)(hj:j<n):(uu c p row by_).getD j 0=if c<j then p⁻¹*(by_.getD c 0*row.getD j 0+ -row.getD c 0*by_.getD j 0) else row.getD j 0:=by
 unfold uu;have hl:(row.take (c+1)).length=c+1:=by rw [qE,h];omega
 by_cases e:c<j
 ·rw [if_pos e,qQ,QJ za,hl,<-qQ,sU];have e1:(zL (by_.getD c 0) (row.drop (c+1))).length=n - (c+1):=by unfold zL;rw [QH,QE,h]
  have e2:(by_.drop (c+1)).length=n - (c+1):=by rw [QE,k]
  rw [Z2 za za,sU,Yx,Yx,show c+1+(j - (c+1))=j by omega]
 ·rw [if_neg e,qQ,QP za,xZ,if_pos za,<-qQ]
theorem ZW (hi:i<S.length):(ve c S).getD i []=if c<i then uu c (zI (zl S) c) (S.getD i []) (S.getD c []) else S.getD i []:=by
 unfold ve;rw [qQ,List.getElem?_mapIdx,qY hi];show(if c<i then _ else _)=_;rw [show S.getD i []=S[i] by rw [qQ,qY hi];rfl]
theorem RS (h:zM S n n)(hc:c<n):zM (ve c S) n n:=by
 refine⟨by unfold ve;rw [List.length_mapIdx];exact h.rows,λL hL=>?_⟩;unfold ve at hL;obtain⟨i,hi,rfl⟩:=List.mem_mapIdx.1 hL
 split
 ·exact dZ (h.cols _ (xU _)) (h.row hc) hc
 ·exact h.cols _ (xU _)
theorem bG (h:zM S n n)(hc:c<n)(hi:i<n)(hj:j<n):zl (ve c S) i j=uD c (zl S) i j:=by
 unfold uD;show((ve c S).getD i []).getD j 0=_;rw [ZW (by rw [h.rows];exact hi)];by_cases e:c<i
 ·rw [if_pos e,Vj (h.row hi) (h.row hc) hc hj];by_cases e2:c<j
  ·rw [if_pos e2,if_pos ⟨e,e2⟩];rfl
  ·rw [if_neg e2,if_neg λx=>e2 x.2];rfl
 ·rw [if_neg e,if_neg λx=>e x.1];rfl
theorem wV.congr {a s s':Nat->Nat->Rat}(h:wV n c a s)(e:∀i,i<n->∀j,j<n->s' i j=s i j):wV n c a s':=by
 have hc:=h.cn;have hp:∀k,k<=c->zI s' k=zI s k:=λk hk=>by
  unfold zI
  split
  ·rfl
  ·exact e _ za _ za
 refine⟨hc,λk hk=>by rw [e k za k za];exact h.ne k hk,λi hi j hj=>?_⟩;rw [h.eq i hi j hj,e i hi j hj,hp c (qX c)];congr 1;refine zU λk hk=>?_
 split
 ·unfold wt;rw [e i hi k za,e k za j hj,e k za k za,hp k za]
 ·rfl
theorem ym.next {e:yF}(h:ym n c K M e)(hM:zM M n n)(hn:n<=64)(hW:yy K M)(hb:wH c e<n - c):ym n (c+1) K M (gL c e):=by
 obtain⟨hk,a⟩:=h.pick hb;have hc:c<n:=za;unfold gL;generalize o5 c e=f at*;have ea:aF M {f with S:=ve c f.S}=aF M f:=rfl;have el:∀i,i<n->∀j,j<n->zl (ve c f.S) i j=uD c (zl f.S) i j:=λi hi j hj=>bG hk.dims hc hi hj;have hs:vg n n (c+1) (aF M f) (zl (ve c f.S)):=hk.sz.step hc hc a (λi h1 h2 j h3 h4=>by rw [el i h2 j h4];unfold uD;rw [if_pos ⟨h1,h3⟩]) (by rw [el c hc c hc];unfold uD;rw [if_neg za]);refine⟨RS hk.dims hc,hk.tl,hk.perm,hk.tq,?_,hs,λi hi j hj=>?_,hk.det,hk.rd⟩
 ·exact(hk.inv.step hc a).congr el
 ·show LI _ (zl (ve c f.S) i j);by_cases e1:c<i/\c<j
  ·exact hs.at_ hn (hk.ali hM hW) e1.1 hi e1.2 hj
  ·rw [el i hi j hj];unfold uD;rw [if_neg e1];exact hk.li i hi j hj
def tH (n:Nat)(M:List (List Rat))(c:Nat):Prop:=∀k,k<c->wH k (xh M k)<n - k
theorem gK {n K:Nat}{M:List (List Rat)}(hM:zM M n n)(hn:n<=64)(hW:yy K M):∀{c:Nat},tH n M c->ym n c K M (xh M c)
 |0,_=>ym.start hM hn hW
 |c+1,h=>by
   rw [UX];exact(gK hM hn hW λk hk=>h k za).next hM hn hW (h c za)
theorem pj (h:ym n n K M (xh M n)):zI (zl (xh M n).S) n=(xh M n).rd*zB n (zl M):=by rw [h.sz.det,h.det]
theorem Oj (h:ym n n K M (xh M n)):zB n (zl M)≠0:=λh0=>by
 have h1:=pj h;rw [h0,xL] at h1;exact h.inv.pr (qX n) h1
theorem To (h:ym n c K M (xh M c))(hc:c<n)(hb:¬ wH c (xh M c)<n - c):zB n (zl M)=0:=by
 have hr:=h.dims.rows;have h1:=h.sz.none hc λi h1 h2=>Rb (by rw [hr];exact hb) h1 (by rw [hr];exact h2);rw [h.det] at h1;have:=h.rne
 grind
set_option maxRecDepth 100000
def ya (h:Nat)(w w':World):Prop:=zZ h w w'/\∀q t cs,q≠h->zh w q t cs->zh w' q t cs
theorem ya.set_ (h i:Nat)(w:World)(v:Value):ya h w (w.setCell ⟨h,i,none⟩ v):=⟨zZ.of_far ((zT.refl h w).set_ i v),λq t cs hq hk=>zh.far (p:=⟨h,i,none⟩) hk hq v⟩
theorem ya.trans {w1 w2:World}(a:ya h w w1)(b:ya h w1 w2):ya h w w2:=
 ⟨⟨qH a.1.1 b.1.1,λp hp hq=>(b.1.2 p (qJ hp a.1.1) hq).trans (a.1.2 p hp hq)⟩,λq t cs hq hk=>b.2 q t cs hq (a.2 q t cs hq hk)⟩
theorem ya.grown (hg:w.grownBy w' (some h)):ya h w w':=⟨zZ.of_grown hg,λq t cs hq hk=>(hg.block q hk.lt (λe=>hq (Option.some.inj e))).trans hk⟩
theorem ya.row (hk:zh w h t cs):ya h w (w.setRow h ds):=
 ⟨⟨zF,λp hp hq=>by
  unfold World.cell?;simp only [setRow_other w h p.block ds hq]⟩,λq t' cs' hq a=>(setRow_other w h q ds hq).trans a⟩
theorem tr (h:y9 cs):vY .u64 cs:=λv hv z e=>h v hv .u64 z e
theorem yf.turn {q:Nat}{L:List Rat}(hv:yf w q m L)(ht:ya h w w')(hk:zh w h t cs)(hn:vY .u64 cs)(hq:q≠h):yf w' q m L:=by
 refine⟨hv.len,?_,λi x hi=>?_⟩
 ·obtain⟨ds,h1,h2,h3⟩:=hv.blk;exact⟨ds,ht.2 _ _ _ hq h1,h2,h3⟩
 ·obtain⟨b,B,k,d,F,u,v,h1,h2,h3,h4⟩:=hv.num i x hi;have hl:=hv.lt;exact⟨b,B,k,d,F,u,v,(ht.1.2 _ hl hq).trans h1,(ht.1.2 _ hl hq).trans h2,(ht.1.2 _ hl hq).trans h3,wD hk hn ht.1 h4⟩
theorem y8.turn {xs:List Rat}{us:List Value}(hr:y8 zo w j s v xs us)(ht:ya h w w')(hk:zh w h t cs)(hn:vY .u64 cs)(hq:v.ownBlock≠some h):y8 zo w' j s v xs us:=by
 refine⟨⟨hr.own.1,?_⟩,λq e=>?_,λi x hi=>?_⟩
 ·rcases hr.own.2 with h1|⟨g,cap,a,e1,e2,e3,e4⟩
  ·exact .inl h1
  ·exact .inr ⟨g,cap,a,e1,e2,ht.2 g s a (λe=>hq (by rw [e1,<-e];rfl)) e3,e4⟩
 ·obtain⟨a,s',h1,h2⟩:=hr.nou q e;exact⟨a,s',ht.2 q s' a (λe'=>hq (by rw [e,e'])) h1,h2⟩
 ·obtain⟨b,B,k,d,F,u,f,h1,h2,h3,h4⟩:=hr.num i x hi;exact⟨b,B,k,d,F,u,f,h1,h2,h3,wD hk hn ht.1 h4⟩
theorem x6.turn {a:Nat}{ld:List Nat}(hl:x6 w a v ld)(ht:ya h w w')(hq:v.ownBlock≠some h):x6 w' a v ld:=
 hl.off λg s cs e hk=>ht.2 g s cs (λe'=>hq (by rw [e,e'])) hk
theorem Oq (h:qs.Nodup){i j:Nat}(hi:i<qs.length)(hj:j<qs.length)(e:qs[i]=qs[j]):i=j:=by
 have h2:=List.pairwise_iff_getElem.1 h;rcases XV i j with a|a|a
 ·exact absurd e (h2 i j hi hj a)
 ·exact a
 ·exact absurd e.symm (h2 j i hj hi a)
def uF (m:Nat)(qs:List Nat):List Value:=qs.map λq=>.slice (some ⟨q,0,none⟩) m m
structure vE (w:World)(g:Nat)(v:Value)(m:Nat)(S:List (List Rat))(qs:List Nat):Prop where
 own:w.ownsRow g 41 1 v S.length (uF m qs)
 sl:wB w v
 len:qs.length=S.length
 row:∀i,i<S.length->yf w (qs.getD i 0) m (S.getD i [])
 lo:∀q ∈ qs,g<q
 nd:qs.Nodup
theorem vE.nil (w:World)(g m:Nat):vE w g (.slice none 0 0) m [] []:=⟨XR _ _ _ _,wB.nil _ _,rfl,λi hi=>absurd hi (Nat.not_lt_zero i),λq hq=>(by cases hq),List.nodup_nil⟩
theorem vE.at_ (h:vE w g v m S qs){q:Nat}(hq:v.ownBlock=some q):g<=q/\∃cs,zh w q 41 cs/\∀u ∈ cs.toList,xg u:=by
 rcases h.own.2 with⟨h1,_⟩|⟨g',cap,cur,e1,e2,e3,_⟩
 ·rw [h1] at hq;cases hq
 ·rw [e1] at hq;simp [Value.ownBlock] at hq;subst hq;obtain⟨a,s,h1,h2⟩:=h.sl g' (by rw [e1];rfl);have:a=cur:=by rw [e3] at h1;injection h1 with h1;injection h1 with h1 _;exact h1.symm
  subst this;exact⟨e2,a,e3,h2⟩
theorem vE.turn (hr:vE w g v m S qs)(ht:ya h w w')(hk:zh w h t cs)(hn:vY .u64 cs)(hv:v.ownBlock≠some h)(hq:h ∉ qs):vE w' g v m S qs where
 own:=⟨hr.own.1,by
  rcases hr.own.2 with h1|⟨g',cap,a,e1,e2,e3,e4⟩
  ·exact .inl h1
  ·exact .inr ⟨g',cap,a,e1,e2,ht.2 g' _ a (λe=>hv (by rw [e1,<-e];rfl)) e3,e4⟩⟩
 sl:=λq e=>by
  obtain⟨a,s',h1,h2⟩:=hr.sl q e;exact⟨a,s',ht.2 q s' a (λe'=>hv (by rw [e,e'])) h1,h2⟩
 len:=hr.len
 row:=λi hi=>(hr.row i hi).turn ht hk hn (λe=>hq (by rw [<-e];exact tW (by rw [hr.len];exact hi)))
 lo:=hr.lo
 nd:=hr.nd
theorem vE.below (hr:vE w g v m S qs)(hb:Below w.heap.size w w'):vE w' g v m S qs where
 own:=⟨hr.own.1,by
  rcases hr.own.2 with h1|⟨g',cap,cur,e1,e2,e3,e4⟩
  ·exact .inl h1
  ·exact .inr ⟨g',cap,cur,e1,e2,zg hb e3,e4⟩⟩
 sl:=hr.sl.below hb
 len:=hr.len
 row:=λi hi=>(hr.row i hi).keep hb
 lo:=hr.lo
 nd:=hr.nd
theorem vE.shape (h:vE w g v m S qs){n:Nat}(hn:S.length=n)(hm:m<=9223372036854775807):∃A c,v=.slice A n c/\n<=c/\c<=9223372036854775807/\yx (yg zo) w A n S/\(∀ad,A=some ad->g<=ad.block)/\
  ∀i,i<n->∃q,A=some ⟨q,0,none⟩/\w.cell? ⟨q,i,none⟩=some (.slice (some ⟨qs.getD i 0,0,none⟩) m m):=by
 subst hn;have hl:=h.len;rcases h.own.2 with⟨rfl,h0⟩|⟨q,cap,cur,rfl,hbg,hg,hnc,hcm,hcs,htake⟩
 ·have hS:S=[]:=QV h0;subst hS;exact⟨none,0,rfl,qX _,zf,yx.nil w none,(λad e=>by cases e),λi hi=>by simp at hi⟩
 ·have a:=h.own.cells (g:=q) rfl;have d:∀i,i<S.length->w.cell? ((⟨q,0,none⟩:Addr).add i)=some (.slice (some ⟨qs.getD i 0,0,none⟩) m m):=λi hi=>a i _ (by
   unfold uF;rw [qW,qQ,qY za];rfl)
  refine⟨some ⟨q,0,none⟩,cap,rfl,hnc,by unfold maxLen at hcm;omega,⟨rfl,λi L hi=>?_⟩,(λad e=>by injection e with e;subst e;exact hbg),λi hi=>⟨q,rfl,by have:=d i hi;rw [xv] at this;exact this⟩⟩;have j:=(List.getElem?_eq_some_iff.1 hi).1;have hL:S.getD i []=L:=by rw [qQ,hi];rfl
  have hv:=(h.row i j);rw [hL] at hv;have k:=hv.len;exact⟨_,_,_,rfl,(zh.lt hg:q<_),by rw [k];exact d i j,by rw [k];exact wC.row hv hm⟩
structure zE (w:World)(g m:Nat)(e:yF)(A:ze)(n cA:Nat)(B:ze)(k cB:Nat)(D:ze)(l cD:Nat)(x0 x1 x2:Value)(qs:List Nat):Prop where
 blk:zh w g 77 #[.slice A n cA,.slice B k cB,.slice D l cD,x0,x1,x2]
 hn:e.S.length=n
 hk:e.T.length=k
 hl:e.P.length=l
 rows:vE w g (.slice A n cA) m e.S qs
 times:∃us,y8 zo w g 52 (.slice B k cB) e.T us
 perm:x6 w g (.slice D l cD) e.P
 rsd:RV w e.rd x0 x1 x2
 tq:∀q,(Value.slice B k cB).ownBlock=some q->q ∉ qs
section
variable {w w':World}{g m:Nat}{e:yF}{A:ze}{n cA:Nat}{B:ze}{k cB:Nat}{D:ze}{l cD:Nat}{x0 x1 x2:Value}{qs:List Nat}
theorem zE.below (h:zE w g m e A n cA B k cB D l cD x0 x1 x2 qs)(hb:Below w.heap.size w w'):zE w' g m e A n cA B k cB D l cD x0 x1 x2 qs:=by
 obtain⟨us,hu⟩:=h.times;exact{blk:=zg hb h.blk,hn:=h.hn,hk:=h.hk,hl:=h.hl,rows:=h.rows.below hb,times:=⟨us,hu.below z6 hb⟩,perm:=h.perm.off λq s cs _ hq=>zg hb hq,rsd:=h.rsd.below hb,tq:=h.tq}
theorem zE.nok (h:zE w g m e A n cA B k cB D l cD x0 x1 x2 qs):vY .u64 #[.slice A n cA,.slice B k cB,.slice D l cD,x0,x1,x2]:=by
 obtain⟨_,_,_,_,_,_,_,rfl,rfl,rfl,_⟩:=h.rsd;intro v hv z e;simp at hv;rcases hv with rfl|rfl|rfl|rfl|rfl|rfl<;>cases e
theorem zE.lt (h:zE w g m e A n cA B k cB D l cD x0 x1 x2 qs):g<w.heap.size:=h.blk.lt
theorem zE.atB (h:zE w g m e A n cA B k cB D l cD x0 x1 x2 qs){q:Nat}(hq:(Value.slice B k cB).ownBlock=some q):g<=q/\∃cs,zh w q 52 cs/\y9 cs:=by
 obtain⟨us,hu⟩:=h.times;rcases hu.own.2 with⟨h1,_⟩|⟨g',cap,cur,e1,e2,e3,_⟩
 ·rw [h1] at hq;cases hq
 ·rw [e1] at hq;simp [Value.ownBlock] at hq;subst hq;obtain⟨a,s,h1,h2⟩:=hu.nou g' (by rw [e1];rfl);have:a=cur:=by rw [e3] at h1;injection h1 with h1;injection h1 with h1 _;exact h1.symm
  subst this;exact⟨e2,a,e3,λu hu k z=>h2 u hu k z⟩
theorem zE.atD (h:zE w g m e A n cA B k cB D l cD x0 x1 x2 qs){q:Nat}(hq:(Value.slice D l cD).ownBlock=some q):g<=q/\∃cs,zh w q 3 cs/\∀u ∈ cs.toList,sa u:=by
 rcases h.perm.own.2 with⟨h1,_⟩|⟨g',cap,cur,e1,e2,e3,_⟩
 ·rw [h1] at hq;cases hq
 ·rw [e1] at hq;simp [Value.ownBlock] at hq;subst hq;obtain⟨a,s,h1,h2⟩:=h.perm.pr g' (by rw [e1];rfl);have:a=cur:=by rw [e3] at h1;injection h1 with h1;injection h1 with h1 _;exact h1.symm
  subst this;exact⟨e2,a,e3,h2⟩
theorem zE.atQ (h:zE w g m e A n cA B k cB D l cD x0 x1 x2 qs){q:Nat}(hq:q ∈ qs):g<q/\∃cs,zh w q 52 cs/\y9 cs:=by
 obtain⟨i,hi,rfl⟩:=jS hq;obtain⟨cs,h1,h2,_⟩:=(h.rows.row i (by rw [<-h.rows.len];exact hi)).blk;exact⟨h.rows.lo _ hq,cs,h1,h2⟩
theorem xl {q:Nat}(a:zh w q t cs)(b:zh w h s ds)(hn:t≠s):q≠h:=λe=>hn (by subst e;exact tv a b)
theorem zE.store (h:zE w g m e A n cA B k cB D l cD x0 x1 x2 qs)(ht:ya g w w'){A':ze}{n' cA':Nat}{B':ze}{k' cB':Nat}{D':ze}{l' cD':Nat}:vE w' g (.slice A n cA) m e.S qs/\(∃us,y8 zo w' g 52 (.slice B k cB) e.T us)/\x6 w' g (.slice D l cD) e.P/\RV w' e.rd x0 x1 x2:=by
 obtain⟨us,hu⟩:=h.times;refine⟨h.rows.turn ht h.blk h.nok (λe=>?_) (λe=>?_),⟨us,hu.turn ht h.blk h.nok λe=>?_⟩,h.perm.turn ht λe=>?_,h.rsd.off h.blk h.nok ht.1⟩
 ·obtain⟨_,cs,h1,_⟩:=h.rows.at_ e;exact xl h1 h.blk zf rfl
 ·have:=h.rows.lo _ e;omega
 ·obtain⟨_,cs,h1,_⟩:=h.atB e;exact xl h1 h.blk zf rfl
 ·obtain⟨_,cs,h1,_⟩:=h.atD e;exact xl h1 h.blk zf rfl
theorem zE.turnA (h:zE w g m e A n cA B k cB D l cD x0 x1 x2 qs){q:Nat}(hq:(Value.slice A n cA).ownBlock=some q)(ht:ya q w w'):zh w' g 77 #[.slice A n cA,.slice B k cB,.slice D l cD,x0,x1,x2]/\(∃us,y8 zo w' g 52 (.slice B k cB) e.T us)/\x6 w' g (.slice D l cD) e.P/\RV w' e.rd x0 x1 x2/\∀i,i<e.S.length->yf w' (qs.getD i 0) m (e.S.getD i []):=by
 obtain⟨us,hu⟩:=h.times;obtain⟨_,cs,hk,hs⟩:=h.rows.at_ hq;refine⟨ht.2 _ _ _ (Ne.symm (xl hk h.blk zf)) h.blk,⟨us,hu.turn ht hk (tZ hs) λe=>?_⟩,h.perm.turn ht (λe=>?_),h.rsd.off hk (tZ hs) ht.1,λi hi=>(h.rows.row i hi).turn ht hk (tZ hs) ?_⟩
 ·obtain⟨_,ds,h1,_⟩:=h.atB e;exact xl h1 hk zf rfl
 ·obtain⟨_,ds,h1,_⟩:=h.atD e;exact xl h1 hk zf rfl
 ·obtain⟨_,ds,h1,_⟩:=h.atQ (q:=qs.getD i 0) (tW (by rw [h.rows.len];exact hi));exact xl h1 hk zf
theorem zE.turnB (h:zE w g m e A n cA B k cB D l cD x0 x1 x2 qs){q:Nat}(hq:(Value.slice B k cB).ownBlock=some q)(ht:ya q w w'):zh w' g 77 #[.slice A n cA,.slice B k cB,.slice D l cD,x0,x1,x2]/\vE w' g (.slice A n cA) m e.S qs/\x6 w' g (.slice D l cD) e.P/\RV w' e.rd x0 x1 x2:=by
 obtain⟨_,cs,hk,hs⟩:=h.atB hq;refine⟨ht.2 _ _ _ (Ne.symm (xl hk h.blk zf)) h.blk,h.rows.turn ht hk (tr hs) (λe=>?_) (h.tq q hq),h.perm.turn ht (λe=>?_),h.rsd.off hk (tr hs) ht.1⟩
 ·obtain⟨_,ds,h1,_⟩:=h.rows.at_ e;exact xl h1 hk zf rfl
 ·obtain⟨_,ds,h1,_⟩:=h.atD e;exact xl h1 hk zf rfl
theorem zE.turnD (h:zE w g m e A n cA B k cB D l cD x0 x1 x2 qs){q:Nat}(hq:(Value.slice D l cD).ownBlock=some q)(ht:ya q w w'):zh w' g 77 #[.slice A n cA,.slice B k cB,.slice D l cD,x0,x1,x2]/\vE w' g (.slice A n cA) m e.S qs/\(∃us,y8 zo w' g 52 (.slice B k cB) e.T us)/\RV w' e.rd x0 x1 x2:=by
 obtain⟨us,hu⟩:=h.times;obtain⟨_,cs,hk,hs⟩:=h.atD hq;refine⟨ht.2 _ _ _ (Ne.symm (xl hk h.blk zf)) h.blk,h.rows.turn ht hk (jU hs) (λe=>?_) (λe=>?_),⟨us,hu.turn ht hk (jU hs) λe=>?_⟩,h.rsd.off hk (jU hs) ht.1⟩
 ·obtain⟨_,ds,h1,_⟩:=h.rows.at_ e;exact xl h1 hk zf rfl
 ·obtain⟨_,ds,h1,_⟩:=h.atQ e;exact xl h1 hk zf rfl
 ·obtain⟨_,ds,h1,_⟩:=h.atB e;exact xl h1 hk zf rfl
theorem zE.turnQ (h:zE w g m e A n cA B k cB D l cD x0 x1 x2 qs){i:Nat}(hi:i<n){L:List Rat}(ht:ya (qs.getD i 0) w w')(hv:yf w' (qs.getD i 0) m L):zE w' g m {e with S:=e.S.set i L} A n cA B k cB D l cD x0 x1 x2 qs:=by
 obtain⟨us,hu⟩:=h.times;have a:=h.rows.len;have o:i<e.S.length:=by rw [h.hn];exact hi
 have d:qs.getD i 0 ∈ qs:=tW za;obtain⟨_,cs,hk,hs⟩:=h.atQ d;exact {
  blk:=ht.2 _ _ _ (Ne.symm (xl hk h.blk zf)) h.blk
  hn:=by rw [<-h.hn];exact QY
  hk:=h.hk
  hl:=h.hl
  rows:={
   own:=⟨by show(uF m qs).length=(e.S.set i L).length*1;rw [QY];exact h.rows.own.1,by
    show _\/_;rw [QY];rcases h.rows.own.2 with h1|⟨g',cap,cur,e1,e2,e3,e4⟩
    ·exact .inl h1
    ·exact .inr ⟨g',cap,cur,e1,e2,ht.2 g' _ cur (xl e3 hk zf) e3,e4⟩⟩
   sl:=λq e=>by
    obtain⟨cur,s',h1,h2⟩:=h.rows.sl q e;obtain⟨_,ds,h3,_⟩:=h.rows.at_ e;exact⟨cur,s',ht.2 q s' cur (xl h3 hk zf) h1,h2⟩
   len:=by show qs.length=(e.S.set i L).length;rw [QY];exact a
   row:=λj hj=>by
    have hj:j<(e.S.set i L).length:=hj;rw [QY] at hj;by_cases hij:j=i
    ·subst hij;rw [Zu _ o];exact hv
    ·rw [dY _ hij];refine(h.rows.row j hj).turn ht hk (tr hs) λe=>hij ?_;have h1:qs[j]?=some (qs.getD j 0):=ws za;have h2:qs[i]?=some (qs.getD i 0):=ws za;rw [qY za] at h1 h2;injection h1 with h1;injection h2 with h2;exact Oq h.rows.nd za za (h1.trans (e.trans h2.symm))
   lo:=h.rows.lo
   nd:=h.rows.nd}
  times:=⟨us,hu.turn ht hk (tr hs) λe=>h.tq _ e d⟩
  perm:=h.perm.turn ht λe=>by obtain⟨_,ds,h1,_⟩:=h.atD e;exact xl h1 hk zf rfl
  rsd:=h.rsd.off hk (tr hs) ht.1
  tq:=h.tq}
end
