/- What this claim leans on. -/
import Derived.Test.YtghpdeciaaagnaaGreatDoorQENextM
import Derived.Laws.CopyRow
namespace Go.Proofs.YtghpdeciaaagnaaGreatDoor
open Go Go.RowKit
set_option maxHeartbeats 16000000
set_option linter.unusedVariables false
structure LSt where
 S:List (List Rat)
 T:List Rat
 P:List Nat
 rd:Rat
def exL {α:Type}(d:α)(r q:Nat)(L:List α):List α:=(L.set r (L.getD q d)).set q (L.getD r d)
theorem zdh {α:Type}(d:α)(r q:Nat)(L:List α):(exL d r q L).length=L.length:=by unfold exL;rw [List.length_set,List.length_set]
theorem zgQ {α:Type}(d:α){r q:Nat}{L:List α}(hr:r<L.length)(hq:q<L.length)(i:Nat):(exL d r q L).getD i d=if i=r then L.getD q d else if i=q then L.getD r d else L.getD i d:=by
 unfold exL;rw [List.getD_eq_getElem?_getD,List.getElem?_set,List.getElem?_set];by_cases e1:i=r
 ·rw [if_pos e1];by_cases e2:q=i
  ·rw [if_pos e2,if_pos (by rw [List.length_set];omega),show q=r by omega];rfl
  ·rw [if_neg e2,if_pos e1.symm,if_pos om9];rfl
 ·rw [if_neg e1];by_cases e2:i=q
  ·rw [if_pos e2,if_pos e2.symm,if_pos (by rw [List.length_set];omega)];rfl
  ·rw [if_neg e2,if_neg (Ne.symm e2),if_neg (Ne.symm e1),<-List.getD_eq_getElem?_getD]
theorem zji {α:Type}(d:α){r q:Nat}{L:List α}(hr:r<L.length)(hq:q<L.length):(exL d r q L).Perm L:=by
 unfold exL;rw [show L.getD q d=L[q] by rw [List.getD_eq_getElem?_getD,List.getElem?_eq_getElem hq];rfl,show L.getD r d=L[r] by rw [List.getD_eq_getElem?_getD,List.getElem?_eq_getElem hr];rfl];exact List.set_set_perm hr hq
def zbt (c:Nat)(e:LSt):Nat:=(e.S.drop c).findIdx λrow=> !decide (row.getD c 0=0)
def zfV (c:Nat)(e:LSt):LSt:=if zbt c e=0 then e else⟨exL [] c (c+zbt c e) e.S,exL 0 c (c+zbt c e) e.T,exL 0 c (c+zbt c e) e.P,-e.rd⟩
def zbG (c:Nat)(p:Rat)(row by_:List Rat):List Rat:=row.take (c+1)++zau p⁻¹ (zdn (zau (by_.getD c 0) (row.drop (c+1))) (-row.getD c 0) (by_.drop (c+1)))
def zcD (c:Nat)(S:List (List Rat)):List (List Rat):=S.mapIdx λi row=>if c<i then zbG c (prF (atM S) c) row (S.getD c []) else row
def zkF (c:Nat)(e:LSt):LSt:={zfV c e with S:=zcD c (zfV c e).S}
def luS (M:List (List Rat)):LSt:=⟨zcb M,M.map zao,List.range M.length,zbJ M⟩
def luE (M:List (List Rat))(c:Nat):LSt:=(List.range c).foldl (λe c=>zkF c e) (luS M)
theorem zmS (M:List (List Rat))(c:Nat):luE M (c+1)=zkF c (luE M c):=by
 unfold luE;rw [List.range_succ,List.foldl_append];rfl
def aF (M:List (List Rat))(e:LSt):Nat->Nat->Rat:=λi j=>e.T.getD i 0*atM M (e.P.getD i 0) j
structure LOk (n c K:Nat)(M:List (List Rat))(e:LSt):Prop where
 dims:zaY e.S n n
 tl:e.T.length=n
 perm:e.P.Perm (List.range n)
 tq:∀i,i<n->e.T.getD i 0=zao (M.getD (e.P.getD i 0) [])
 inv:zdR n c (aF M e) (atM e.S)
 sz:LSz n n c (aF M e) (atM e.S)
 li:∀i,i<n->∀j,j<n->LI (67+65*K) (atM e.S i j)
 det:zaJ n (aF M e)=e.rd*zaJ n (atM M)
 rd:e.rd=zbJ M\/e.rd= -zbJ M
theorem LOk.pl {n c K:Nat}{M:List (List Rat)}{e:LSt}(h:LOk n c K M e):e.P.length=n:=by rw [h.perm.length_eq,List.length_range]
theorem LOk.pn {n c K:Nat}{M:List (List Rat)}{e:LSt}(h:LOk n c K M e){i:Nat}(hi:i<n):e.P.getD i 0<n:=by
 have:e.P.getD i 0 ∈ List.range n:=h.perm.mem_iff.1 (zdG (by rw [h.pl];exact hi));exact List.mem_range.1 this
theorem LOk.tne {n c K:Nat}{M:List (List Rat)}{e:LSt}(h:LOk n c K M e){i:Nat}(hi:i<n):e.T.getD i 0≠0:=by rw [h.tq i hi];exact zhG (by decide+kernel)
theorem LOk.rne {n c K:Nat}{M:List (List Rat)}{e:LSt}(h:LOk n c K M e):e.rd≠0:=by
 have:=zoN M;rcases h.rd with e1|e1<;>rw [e1]<;>grind
theorem znc {n m:Nat}{M:List (List Rat)}(hM:zaY M n m){i:Nat}(hi:i<n):M.getD i [] ∈ M:=List.mem_of_getElem? (zbi (by have:=hM.rows;omega))
theorem LOk.tli {n c K:Nat}{M:List (List Rat)}{e:LSt}(h:LOk n c K M e)(hM:zaY M n n)(hW:zbn K M){i:Nat}(hi:i<n):LI K (e.T.getD i 0):=by
 rw [h.tq i hi];exact hW.q _ (znc hM (h.pn hi))
theorem LOk.ali {n c K:Nat}{M:List (List Rat)}{e:LSt}(h:LOk n c K M e)(hM:zaY M n n)(hW:zbn K M):∀i,i<n->∀j,j<n->LI K (aF M e i j):=λi hi j hj=>by
 unfold aF;rw [h.tq i hi];refine hW.x _ (znc hM (h.pn hi)) _ ?_;unfold atM;have:=hM.row (h.pn hi);exact List.mem_of_getElem? (zbi (d:=0) om9)
theorem LOk.start {n K:Nat}{M:List (List Rat)}(hM:zaY M n n)(hn:n<=64)(hW:zbn K M):LOk n 0 K M (luS M):=by
 have hl:=hM.rows;have ha:∀i,i<n->∀j,aF M (luS M) i j=atM (zcb M) i j:=λi hi j=>by
  unfold aF luS;rw [zid hM hi];have q1:(M.map zao).getD i 0=zao (M.getD i []):=by rw [List.getD_eq_getElem?_getD,List.getElem?_map,zbi (d:=[]) om9];rfl
  have q2:(List.range M.length).getD i 0=i:=by rw [List.getD_eq_getElem?_getD,List.getElem?_range om9];rfl
  show(M.map zao).getD i 0*atM M ((List.range M.length).getD i 0) j=_;rw [q1,q2]
 have hp:∀i,i<n->(luS M).P.getD i 0=i:=λi hi=>by
  show(List.range M.length).getD i 0=i;rw [List.getD_eq_getElem?_getD,List.getElem?_range om9];rfl
 have h0:zdR n 0 (aF M (luS M)) (atM (zcb M)):=by
  have:=zdR.start n (atM (zcb M));exact⟨this.cn,this.ne,λi hi j hj=>by rw [ha i hi j];exact this.eq i hi j hj⟩
 have h1:LSz n n 0 (aF M (luS M)) (atM (zcb M)):=by
  refine⟨aF M (luS M),zcy.start n n _,λi _ hi j _ _=>ha i hi j⟩
 refine⟨znD hM,by show(M.map zao).length=n;rw [List.length_map];exact hl,by show(List.range M.length).Perm _;rw [hl],λi hi=>?_,h0,h1,λi hi j hj=>(hW.at_ hM i hi j hj).up om9,?_,Or.inl rfl⟩
 ·rw [hp i hi];show(M.map zao).getD i 0=_;rw [List.getD_eq_getElem?_getD,List.getElem?_map,zbi (d:=[]) om9];rfl
 ·rw [zbd λi hi j _=>ha i hi j];exact zrz hM
theorem zmk {c:Nat}{e:LSt}(h:¬ zbt c e<e.S.length - c){i:Nat}(h1:c<=i)(h2:i<e.S.length):atM e.S i c=0:=by
 have hl:(e.S.drop c).length=e.S.length - c:=List.length_drop;have:=List.not_of_lt_findIdx (p:=λrow:List Rat=> !decide (row.getD c 0=0)) (xs:=e.S.drop c) (i:=i - c) (by show _<zbt c e;omega);rw [zdC om9,show c+(i - c)=i by omega] at this;simpa [atM] using this
theorem zml {c:Nat}{e:LSt}(h:zbt c e<e.S.length - c):atM e.S (c+zbt c e) c≠0:=by
 have hl:(e.S.drop c).length=e.S.length - c:=List.length_drop;have:=List.findIdx_getElem (p:=λrow:List Rat=> !decide (row.getD c 0=0)) (xs:=e.S.drop c) (w:=by show zbt c e<_;omega);rw [zdC (by show zbt c e<_;omega)] at this;simpa [atM,zbt] using this
theorem exL_dims {S:List (List Rat)}{n m r q:Nat}(h:zaY S n m)(hr:r<n)(hq:q<n):zaY (exL [] r q S) n m:=by
 refine⟨by rw [zdh];exact h.rows,λL hL=>?_⟩;exact h.cols L ((zji [] (by rw [h.rows];exact hr) (by rw [h.rows];exact hq)).mem_iff.1 hL)
theorem exL_atM {S:List (List Rat)}{r q:Nat}(hr:r<S.length)(hq:q<S.length):atM (exL [] r q S)=xch r q (atM S):=by
 funext i j
 unfold atM xch;rw [zgQ [] hr hq]
 split
 ·rfl
 ·split<;>rfl
theorem xch_det {n r q:Nat}(h1:r<q)(h2:q<n)(a:Nat->Nat->Rat):zaJ n (xch r q a)= -zaJ n a:=by
 have e1:xch r q a=zbl (zbl a r (a q)) q (a r):=by
  funext i j
  unfold xch zbl;by_cases e:i=r
  ·rw [if_pos e,if_neg om9,if_pos e]
  ·rw [if_neg e];by_cases e2:i=q
   ·rw [if_pos e2,if_pos e2]
   ·rw [if_neg e2,if_neg e2,if_neg e]
 have e2:zbl (zbl a r (a r)) q (a q)=a:=by rw [zkT,zkT]
 rw [e1,rswap om9 h2 om9 (λM hM=>zeQ h1 h2 hM) a (a q) (a r),e2]
theorem LOk.pick {n c K:Nat}{M:List (List Rat)}{e:LSt}(h:LOk n c K M e)(hb:zbt c e<n - c):LOk n c K M (zfV c e)/\atM (zfV c e).S c c≠0:=by
 have hr:=h.dims.rows;have b:=zml (c:=c) (e:=e) (by rw [hr];exact hb);unfold zfV;by_cases h0:zbt c e=0
 ·rw [if_pos h0];rw [h0,Nat.add_zero] at b;exact⟨h,b⟩
 ·rw [if_neg h0];have hq:c+zbt c e<n:=om9;have hc:c<n:=om9;have a:c<c+zbt c e:=om9;generalize c+zbt c e=q at*;have d:=h.tl;have hpl:=h.pl;have ea:aF M ⟨exL [] c q e.S,exL 0 c q e.T,exL 0 c q e.P,-e.rd⟩=xch c q (aF M e):=by
   funext i j
   unfold aF xch;show(exL 0 c q e.T).getD i 0*atM M ((exL 0 c q e.P).getD i 0) j=_;rw [zgQ 0 om9 om9,zgQ 0 om9 om9]
   split
   ·rfl
   ·split<;>rfl
  have es:atM (exL [] c q e.S)=xch c q (atM e.S):=exL_atM om9 om9;refine⟨⟨exL_dims h.dims hc hq,by show(exL 0 c q e.T).length=n;rw [zdh];exact d,(zji 0 om9 om9).trans h.perm,λi hi=>?_,?_,?_,λi hi j hj=>?_,?_,?_⟩,?_⟩
  ·show(exL 0 c q e.T).getD i 0=zao (M.getD ((exL 0 c q e.P).getD i 0) []);rw [zgQ 0 om9 om9,zgQ 0 om9 om9]
   split
   ·exact h.tq q hq
   ·split
    ·exact h.tq c hc
    ·exact h.tq i hi
  ·rw [ea];show zdR n c _ (atM (exL [] c q e.S));rw [es];exact h.inv.xch_ a hq
  ·rw [ea];show LSz n n c _ (atM (exL [] c q e.S));rw [es];exact h.sz.xch_ a hq
  ·show LI _ (atM (exL [] c q e.S) i j);rw [es];unfold xch
   split
   ·exact h.li q hq j hj
   ·split
    ·exact h.li c hc j hj
    ·exact h.li i hi j hj
  ·rw [ea,xch_det a hq,h.det];show -(e.rd*_)= -e.rd*_
   grind
  ·show -e.rd=_\/ -e.rd=_;rcases h.rd with e1|e1
   ·right;rw [e1]
   ·left;rw [e1];grind
  ·show atM (exL [] c q e.S) c c≠0;rw [es];unfold xch;rw [if_pos rfl];exact b
theorem zez {c n:Nat}{p:Rat}{row by_:List Rat}(h:row.length=n)(k:by_.length=n)(hc:c<n):(zbG c p row by_).length=n:=by
 unfold zbG zau zdn;rw [List.length_append,List.length_take,List.length_map,List.length_zipWith,List.length_map,List.length_drop,List.length_drop,h,k];omega
theorem zjq {c n j:Nat}{p:Rat}{row by_:List Rat}(h:row.length=n)(k:by_.length=n)(hc:c<n)(hj:j<n):(zbG c p row by_).getD j 0=if c<j then p⁻¹*(by_.getD c 0*row.getD j 0+ -row.getD c 0*by_.getD j 0) else row.getD j 0:=by
 unfold zbG;have hl:(row.take (c+1)).length=c+1:=by rw [List.length_take,h];omega
 by_cases e:c<j
 ·rw [if_pos e,List.getD_eq_getElem?_getD,List.getElem?_append_right om9,hl,<-List.getD_eq_getElem?_getD,zct];have e1:(zau (by_.getD c 0) (row.drop (c+1))).length=n - (c+1):=by unfold zau;rw [List.length_map,List.length_drop,h]
  have e2:(by_.drop (c+1)).length=n - (c+1):=by rw [List.length_drop,k]
  rw [ziZ om9 om9,zct,zlt,zlt,show c+1+(j - (c+1))=j by omega]
 ·rw [if_neg e,List.getD_eq_getElem?_getD,List.getElem?_append_left om9,List.getElem?_take,if_pos om9,<-List.getD_eq_getElem?_getD]
theorem zhS {c i:Nat}{S:List (List Rat)}(hi:i<S.length):(zcD c S).getD i []=if c<i then zbG c (prF (atM S) c) (S.getD i []) (S.getD c []) else S.getD i []:=by
 unfold zcD;rw [List.getD_eq_getElem?_getD,List.getElem?_mapIdx,List.getElem?_eq_getElem hi];show(if c<i then _ else _)=_;rw [show S.getD i []=S[i] by rw [List.getD_eq_getElem?_getD,List.getElem?_eq_getElem hi];rfl]
theorem zos {c n:Nat}{S:List (List Rat)}(h:zaY S n n)(hc:c<n):zaY (zcD c S) n n:=by
 refine⟨by unfold zcD;rw [List.length_mapIdx];exact h.rows,λL hL=>?_⟩;unfold zcD at hL;obtain⟨i,hi,rfl⟩:=List.mem_mapIdx.1 hL
 split
 ·exact zez (h.cols _ (List.getElem_mem _)) (h.row hc) hc
 ·exact h.cols _ (List.getElem_mem _)
theorem zhn {c n i j:Nat}{S:List (List Rat)}(h:zaY S n n)(hc:c<n)(hi:i<n)(hj:j<n):atM (zcD c S) i j=zfR c (atM S) i j:=by
 unfold zfR;show((zcD c S).getD i []).getD j 0=_;rw [zhS (by rw [h.rows];exact hi)];by_cases e:c<i
 ·rw [if_pos e,zjq (h.row hi) (h.row hc) hc hj];by_cases e2:c<j
  ·rw [if_pos e2,if_pos ⟨e,e2⟩];rfl
  ·rw [if_neg e2,if_neg λx=>e2 x.2];rfl
 ·rw [if_neg e,if_neg λx=>e x.1];rfl
theorem zdR.congr {n c:Nat}{a s s':Nat->Nat->Rat}(h:zdR n c a s)(e:∀i,i<n->∀j,j<n->s' i j=s i j):zdR n c a s':=by
 have hc:=h.cn;have hp:∀k,k<=c->prF s' k=prF s k:=λk hk=>by
  unfold prF
  split
  ·rfl
  ·exact e _ om9 _ om9
 refine⟨hc,λk hk=>by rw [e k om9 k om9];exact h.ne k hk,λi hi j hj=>?_⟩;rw [h.eq i hi j hj,e i hi j hj,hp c (Nat.le_refl c)];congr 1;refine zal λk hk=>?_
 split
 ·unfold tmF;rw [e i hi k om9,e k om9 j hj,e k om9 k om9,hp k om9]
 ·rfl
theorem LOk.next {n c K:Nat}{M:List (List Rat)}{e:LSt}(h:LOk n c K M e)(hM:zaY M n n)(hn:n<=64)(hW:zbn K M)(hb:zbt c e<n - c):LOk n (c+1) K M (zkF c e):=by
 obtain⟨hk,a⟩:=h.pick hb;have hc:c<n:=om9;unfold zkF;generalize zfV c e=f at*;have ea:aF M {f with S:=zcD c f.S}=aF M f:=rfl;have el:∀i,i<n->∀j,j<n->atM (zcD c f.S) i j=zfR c (atM f.S) i j:=λi hi j hj=>zhn hk.dims hc hi hj;have hs:LSz n n (c+1) (aF M f) (atM (zcD c f.S)):=hk.sz.step hc hc a (λi h1 h2 j h3 h4=>by rw [el i h2 j h4];unfold zfR;rw [if_pos ⟨h1,h3⟩]) (by rw [el c hc c hc];unfold zfR;rw [if_neg om9]);refine⟨zos hk.dims hc,hk.tl,hk.perm,hk.tq,?_,hs,λi hi j hj=>?_,hk.det,hk.rd⟩
 ·exact(hk.inv.step hc a).congr el
 ·show LI _ (atM (zcD c f.S) i j);by_cases e1:c<i/\c<j
  ·exact hs.at_ hn (hk.ali hM hW) e1.1 hi e1.2 hj
  ·rw [el i hi j hj];unfold zfR;rw [if_neg e1];exact hk.li i hi j hj
def LGood (n:Nat)(M:List (List Rat))(c:Nat):Prop:=∀k,k<c->zbt k (luE M k)<n - k
theorem lu_ok {n K:Nat}{M:List (List Rat)}(hM:zaY M n n)(hn:n<=64)(hW:zbn K M):∀{c:Nat},LGood n M c->LOk n c K M (luE M c)
 |0,_=>LOk.start hM hn hW
 |c+1,h=>by
   rw [zmS];exact(lu_ok hM hn hW λk hk=>h k om9).next hM hn hW (h c om9)
theorem lu_det {n K:Nat}{M:List (List Rat)}(h:LOk n n K M (luE M n)):prF (atM (luE M n).S) n=(luE M n).rd*zaJ n (atM M):=by rw [h.sz.det,h.det]
theorem lu_none {n c K:Nat}{M:List (List Rat)}(h:LOk n c K M (luE M c))(hc:c<n)(hb:¬ zbt c (luE M c)<n - c):zaJ n (atM M)=0:=by
 have hr:=h.dims.rows;have h1:=h.sz.none hc λi h1 h2=>zmk (by rw [hr];exact hb) h1 (by rw [hr];exact h2);rw [h.det] at h1;have:=h.rne
 grind
set_option maxRecDepth 100000
set_option linter.unusedSimpArgs false
def zaK (h:Nat)(w w':World):Prop:=zaV h w w'/\∀q t cs,q≠h->Blk w q t cs->Blk w' q t cs
theorem zaK.set_ (h i:Nat)(w:World)(v:Value):zaK h w (w.setCell ⟨h,i,none⟩ v):=⟨zaV.of_far ((zbp.refl h w).set_ i v),λq t cs hq hk=>Blk.far (p:=⟨h,i,none⟩) hk hq v⟩
theorem zaK.trans {h:Nat}{w w1 w2:World}(a:zaK h w w1)(b:zaK h w1 w2):zaK h w w2:=
 ⟨⟨Nat.le_trans a.1.1 b.1.1,λp hp hq=>(b.1.2 p (Nat.lt_of_lt_of_le hp a.1.1) hq).trans (a.1.2 p hp hq)⟩,λq t cs hq hk=>b.2 q t cs hq (a.2 q t cs hq hk)⟩
theorem zaK.grown {h:Nat}{w w':World}(hg:w.grownBy w' (some h)):zaK h w w':=⟨zaV.of_grown hg,λq t cs hq hk=>(hg.block q hk.lt (λe=>hq (Option.some.inj e))).trans hk⟩
theorem zaK.row {h:Nat}{w:World}{t:TypeId}{cs ds:Array Value}(hk:Blk w h t cs):zaK h w (w.setRow h ds):=
 ⟨⟨si9,λp hp hq=>by
  unfold World.cell?;simp only [setRow_other w h p.block ds hq]⟩,λq t' cs' hq a=>(setRow_other w h q ds hq).trans a⟩
theorem zaG {cs:Array Value}(h:NoU cs):NoK .u64 cs:=λv hv z e=>h v hv .u64 z e
theorem zaI.turn {h:Nat}{w w':World}{t:TypeId}{cs:Array Value}{q m:Nat}{L:List Rat}(hv:zaI w q m L)(ht:zaK h w w')(hk:Blk w h t cs)(hn:NoK .u64 cs)(hq:q≠h):zaI w' q m L:=by
 refine⟨hv.len,?_,λi x hi=>?_⟩
 ·obtain⟨ds,h1,h2,h3⟩:=hv.blk;exact⟨ds,ht.2 _ _ _ hq h1,h2,h3⟩
 ·obtain⟨b,B,k,d,F,u,v,h1,h2,h3,h4⟩:=hv.num i x hi;have hl:=hv.lt;exact⟨b,B,k,d,F,u,v,(ht.1.2 _ hl hq).trans h1,(ht.1.2 _ hl hq).trans h2,(ht.1.2 _ hl hq).trans h3,zaz hk hn ht.1 h4⟩
theorem zcc.turn {h:Nat}{w w':World}{t s:TypeId}{cs:Array Value}{c:Nat}{v:Value}{xs:List Rat}{us:List Value}(hr:zcc zaf w c s v xs us)(ht:zaK h w w')(hk:Blk w h t cs)(hn:NoK .u64 cs)(hq:v.ownBlock≠some h):zcc zaf w' c s v xs us:=by
 refine⟨⟨hr.own.1,?_⟩,λq e=>?_,λi x hi=>?_⟩
 ·rcases hr.own.2 with h1|⟨g,cap,a,e1,e2,e3,e4⟩
  ·exact .inl h1
  ·exact .inr ⟨g,cap,a,e1,e2,ht.2 g s a (λe=>hq (by rw [e1,<-e];rfl)) e3,e4⟩
 ·obtain⟨a,s',h1,h2⟩:=hr.nou q e;exact⟨a,s',ht.2 q s' a (λe'=>hq (by rw [e,e'])) h1,h2⟩
 ·obtain⟨b,B,k,d,F,u,f,h1,h2,h3,h4⟩:=hr.num i x hi;exact⟨b,B,k,d,F,u,f,h1,h2,h3,zaz hk hn ht.1 h4⟩
theorem zde.turn {h:Nat}{w w':World}{a:Nat}{v:Value}{ld:List Nat}(hl:zde w a v ld)(ht:zaK h w w')(hq:v.ownBlock≠some h):zde w' a v ld:=
 hl.off λg s cs e hk=>ht.2 g s cs (λe'=>hq (by rw [e,e'])) hk
theorem zkG {qs:List Nat}(h:qs.Nodup){i j:Nat}(hi:i<qs.length)(hj:j<qs.length)(e:qs[i]=qs[j]):i=j:=by
 have h2:=List.pairwise_iff_getElem.1 h;rcases Nat.lt_trichotomy i j with a|a|a
 ·exact absurd e (h2 i j hi hj a)
 ·exact a
 ·exact absurd e.symm (h2 j i hj hi a)
def slV (m:Nat)(qs:List Nat):List Value:=qs.map λq=>.slice (some ⟨q,0,none⟩) m m
structure zdb (w:World)(g:Nat)(v:Value)(m:Nat)(S:List (List Rat))(qs:List Nat):Prop where
 own:w.ownsRow g 61 1 v S.length (slV m qs)
 sl:zbM w v
 len:qs.length=S.length
 row:∀i,i<S.length->zaI w (qs.getD i 0) m (S.getD i [])
 lo:∀q ∈ qs,g<q
 nd:qs.Nodup
theorem zdb.nil (w:World)(g m:Nat):zdb w g (.slice none 0 0) m [] []:=⟨World.ownsRow_nil _ _ _ _,zbM.nil _ _,rfl,λi hi=>absurd hi (Nat.not_lt_zero i),λq hq=>(by cases hq),List.nodup_nil⟩
theorem zdb.at_ {w:World}{g m:Nat}{v:Value}{S:List (List Rat)}{qs:List Nat}(h:zdb w g v m S qs){q:Nat}(hq:v.ownBlock=some q):g<=q/\∃cs,Blk w q 61 cs/\∀u ∈ cs.toList,zcv u:=by
 rcases h.own.2 with⟨h1,_⟩|⟨g',cap,cur,e1,e2,e3,_⟩
 ·rw [h1] at hq;cases hq
 ·rw [e1] at hq;simp [Value.ownBlock] at hq;subst hq;obtain⟨a,s,h1,h2⟩:=h.sl g' (by rw [e1];rfl);have:a=cur:=by rw [e3] at h1;injection h1 with h1;injection h1 with h1 _;exact h1.symm
  subst this;exact⟨e2,a,e3,h2⟩
theorem zdb.turn {h:Nat}{w w':World}{t:TypeId}{cs:Array Value}{g m:Nat}{v:Value}{S:List (List Rat)}{qs:List Nat}(hr:zdb w g v m S qs)(ht:zaK h w w')(hk:Blk w h t cs)(hn:NoK .u64 cs)(hv:v.ownBlock≠some h)(hq:h ∉ qs):zdb w' g v m S qs where
 own:=⟨hr.own.1,by
  rcases hr.own.2 with h1|⟨g',cap,a,e1,e2,e3,e4⟩
  ·exact .inl h1
  ·exact .inr ⟨g',cap,a,e1,e2,ht.2 g' _ a (λe=>hv (by rw [e1,<-e];rfl)) e3,e4⟩⟩
 sl:=λq e=>by
  obtain⟨a,s',h1,h2⟩:=hr.sl q e;exact⟨a,s',ht.2 q s' a (λe'=>hv (by rw [e,e'])) h1,h2⟩
 len:=hr.len
 row:=λi hi=>(hr.row i hi).turn ht hk hn (λe=>hq (by rw [<-e];exact zdG (by rw [hr.len];exact hi)))
 lo:=hr.lo
 nd:=hr.nd
theorem zdb.below {w w':World}{g m:Nat}{v:Value}{S:List (List Rat)}{qs:List Nat}(hr:zdb w g v m S qs)(hb:Below w.heap.size w w'):zdb w' g v m S qs where
 own:=⟨hr.own.1,by
  rcases hr.own.2 with h1|⟨g',cap,cur,e1,e2,e3,e4⟩
  ·exact .inl h1
  ·exact .inr ⟨g',cap,cur,e1,e2,zab hb e3,e4⟩⟩
 sl:=hr.sl.below hb
 len:=hr.len
 row:=λi hi=>(hr.row i hi).keep hb
 lo:=hr.lo
 nd:=hr.nd
theorem zdb.shape {w:World}{g m:Nat}{v:Value}{S:List (List Rat)}{qs:List Nat}(h:zdb w g v m S qs){n:Nat}(hn:S.length=n)(hm:m<=9223372036854775807):∃A c,v=.slice A n c/\n<=c/\c<=9223372036854775807/\zaC (zaM zaf) w A n S/\(∀ad,A=some ad->g<=ad.block)/\
  ∀i,i<n->∃q,A=some ⟨q,0,none⟩/\w.cell? ⟨q,i,none⟩=some (.slice (some ⟨qs.getD i 0,0,none⟩) m m):=by
 subst hn;have hl:=h.len;rcases h.own.2 with⟨rfl,h0⟩|⟨q,cap,cur,rfl,hbg,hg,hnc,hcm,hcs,htake⟩
 ·have hS:S=[]:=List.eq_nil_of_length_eq_zero h0;subst hS;exact⟨none,0,rfl,Nat.le_refl _,de9,zaC.nil w none,(λad e=>by cases e),λi hi=>by simp at hi⟩
 ·have a:=h.own.cells (g:=q) rfl;have b:∀i,i<S.length->w.cell? ((⟨q,0,none⟩:Addr).add i)=some (.slice (some ⟨qs.getD i 0,0,none⟩) m m):=λi hi=>a i _ (by
   unfold slV;rw [List.getElem?_map,List.getD_eq_getElem?_getD,List.getElem?_eq_getElem om9];rfl)
  refine⟨some ⟨q,0,none⟩,cap,rfl,hnc,by unfold maxLen at hcm;omega,⟨rfl,λi L hi=>?_⟩,(λad e=>by injection e with e;subst e;exact hbg),λi hi=>⟨q,rfl,by have:=b i hi;rw [zar] at this;exact this⟩⟩;have d:=(List.getElem?_eq_some_iff.1 hi).1;have hL:S.getD i []=L:=by rw [List.getD_eq_getElem?_getD,hi];rfl
  have hv:=(h.row i d);rw [hL] at hv;have f:=hv.len;exact⟨_,_,_,rfl,(Blk.lt hg:q<_),by rw [f];exact b i d,by rw [f];exact zbm.row hv hm⟩
structure LuS (w:World)(g m:Nat)(e:LSt)(A:oA9)(n cA:Nat)(B:oA9)(k cB:Nat)(D:oA9)(l cD:Nat)(x0 x1 x2:Value)(qs:List Nat):Prop where
 blk:Blk w g 142 #[.slice A n cA,.slice B k cB,.slice D l cD,x0,x1,x2]
 hn:e.S.length=n
 hk:e.T.length=k
 hl:e.P.length=l
 rows:zdb w g (.slice A n cA) m e.S qs
 times:∃us,zcc zaf w g 41 (.slice B k cB) e.T us
 perm:zde w g (.slice D l cD) e.P
 rsd:RV w e.rd x0 x1 x2
 tq:∀q,(Value.slice B k cB).ownBlock=some q->q ∉ qs
section
variable {w w':World}{g m:Nat}{e:LSt}{A:oA9}{n cA:Nat}{B:oA9}{k cB:Nat}{D:oA9}{l cD:Nat}{x0 x1 x2:Value}{qs:List Nat}
theorem LuS.below (h:LuS w g m e A n cA B k cB D l cD x0 x1 x2 qs)(hb:Below w.heap.size w w'):LuS w' g m e A n cA B k cB D l cD x0 x1 x2 qs:=by
 obtain⟨us,hu⟩:=h.times;exact{blk:=zab hb h.blk,hn:=h.hn,hk:=h.hk,hl:=h.hl,rows:=h.rows.below hb,times:=⟨us,hu.below zak hb⟩,perm:=h.perm.off λq s cs _ hq=>zab hb hq,rsd:=h.rsd.below hb,tq:=h.tq}
theorem LuS.nok (h:LuS w g m e A n cA B k cB D l cD x0 x1 x2 qs):NoK .u64 #[.slice A n cA,.slice B k cB,.slice D l cD,x0,x1,x2]:=by
 obtain⟨_,_,_,_,_,_,_,rfl,rfl,rfl,_⟩:=h.rsd;intro v hv z e;simp at hv;rcases hv with rfl|rfl|rfl|rfl|rfl|rfl<;>cases e
theorem LuS.lt (h:LuS w g m e A n cA B k cB D l cD x0 x1 x2 qs):g<w.heap.size:=h.blk.lt
theorem LuS.atB (h:LuS w g m e A n cA B k cB D l cD x0 x1 x2 qs){q:Nat}(hq:(Value.slice B k cB).ownBlock=some q):g<=q/\∃cs,Blk w q 41 cs/\NoU cs:=by
 obtain⟨us,hu⟩:=h.times;rcases hu.own.2 with⟨h1,_⟩|⟨g',cap,cur,e1,e2,e3,_⟩
 ·rw [h1] at hq;cases hq
 ·rw [e1] at hq;simp [Value.ownBlock] at hq;subst hq;obtain⟨a,s,h1,h2⟩:=hu.nou g' (by rw [e1];rfl);have:a=cur:=by rw [e3] at h1;injection h1 with h1;injection h1 with h1 _;exact h1.symm
  subst this;exact⟨e2,a,e3,λu hu k z=>h2 u hu k z⟩
theorem LuS.atD (h:LuS w g m e A n cA B k cB D l cD x0 x1 x2 qs){q:Nat}(hq:(Value.slice D l cD).ownBlock=some q):g<=q/\∃cs,Blk w q 3 cs/\∀u ∈ cs.toList,zih u:=by
 rcases h.perm.own.2 with⟨h1,_⟩|⟨g',cap,cur,e1,e2,e3,_⟩
 ·rw [h1] at hq;cases hq
 ·rw [e1] at hq;simp [Value.ownBlock] at hq;subst hq;obtain⟨a,s,h1,h2⟩:=h.perm.pr g' (by rw [e1];rfl);have:a=cur:=by rw [e3] at h1;injection h1 with h1;injection h1 with h1 _;exact h1.symm
  subst this;exact⟨e2,a,e3,h2⟩
theorem LuS.atQ (h:LuS w g m e A n cA B k cB D l cD x0 x1 x2 qs){q:Nat}(hq:q ∈ qs):g<q/\∃cs,Blk w q 41 cs/\NoU cs:=by
 obtain⟨i,hi,rfl⟩:=zjx hq;obtain⟨cs,h1,h2,_⟩:=(h.rows.row i (by rw [<-h.rows.len];exact hi)).blk;exact⟨h.rows.lo _ hq,cs,h1,h2⟩
theorem zbo {w:World}{q h:Nat}{t s:TypeId}{cs ds:Array Value}(a:Blk w q t cs)(b:Blk w h s ds)(hn:t≠s):q≠h:=λe=>hn (by subst e;exact zhM a b)
theorem LuS.store (h:LuS w g m e A n cA B k cB D l cD x0 x1 x2 qs)(ht:zaK g w w'){A':oA9}{n' cA':Nat}{B':oA9}{k' cB':Nat}{D':oA9}{l' cD':Nat}:zdb w' g (.slice A n cA) m e.S qs/\(∃us,zcc zaf w' g 41 (.slice B k cB) e.T us)/\zde w' g (.slice D l cD) e.P/\RV w' e.rd x0 x1 x2:=by
 obtain⟨us,hu⟩:=h.times;refine⟨h.rows.turn ht h.blk h.nok (λe=>?_) (λe=>?_),⟨us,hu.turn ht h.blk h.nok λe=>?_⟩,h.perm.turn ht λe=>?_,h.rsd.off h.blk h.nok ht.1⟩
 ·obtain⟨_,cs,h1,_⟩:=h.rows.at_ e;exact zbo h1 h.blk de9 rfl
 ·have:=h.rows.lo _ e;omega
 ·obtain⟨_,cs,h1,_⟩:=h.atB e;exact zbo h1 h.blk de9 rfl
 ·obtain⟨_,cs,h1,_⟩:=h.atD e;exact zbo h1 h.blk de9 rfl
theorem LuS.turnA (h:LuS w g m e A n cA B k cB D l cD x0 x1 x2 qs){q:Nat}(hq:(Value.slice A n cA).ownBlock=some q)(ht:zaK q w w'):Blk w' g 142 #[.slice A n cA,.slice B k cB,.slice D l cD,x0,x1,x2]/\(∃us,zcc zaf w' g 41 (.slice B k cB) e.T us)/\zde w' g (.slice D l cD) e.P/\RV w' e.rd x0 x1 x2/\∀i,i<e.S.length->zaI w' (qs.getD i 0) m (e.S.getD i []):=by
 obtain⟨us,hu⟩:=h.times;obtain⟨_,cs,hk,hs⟩:=h.rows.at_ hq;refine⟨ht.2 _ _ _ (Ne.symm (zbo hk h.blk de9)) h.blk,⟨us,hu.turn ht hk (zeJ hs) λe=>?_⟩,h.perm.turn ht (λe=>?_),h.rsd.off hk (zeJ hs) ht.1,λi hi=>(h.rows.row i hi).turn ht hk (zeJ hs) ?_⟩
 ·obtain⟨_,ds,h1,_⟩:=h.atB e;exact zbo h1 hk de9 rfl
 ·obtain⟨_,ds,h1,_⟩:=h.atD e;exact zbo h1 hk de9 rfl
 ·obtain⟨_,ds,h1,_⟩:=h.atQ (q:=qs.getD i 0) (zdG (by rw [h.rows.len];exact hi));exact zbo h1 hk de9
theorem LuS.turnB (h:LuS w g m e A n cA B k cB D l cD x0 x1 x2 qs){q:Nat}(hq:(Value.slice B k cB).ownBlock=some q)(ht:zaK q w w'):Blk w' g 142 #[.slice A n cA,.slice B k cB,.slice D l cD,x0,x1,x2]/\zdb w' g (.slice A n cA) m e.S qs/\zde w' g (.slice D l cD) e.P/\RV w' e.rd x0 x1 x2:=by
 obtain⟨_,cs,hk,hs⟩:=h.atB hq;refine⟨ht.2 _ _ _ (Ne.symm (zbo hk h.blk de9)) h.blk,h.rows.turn ht hk (zaG hs) (λe=>?_) (h.tq q hq),h.perm.turn ht (λe=>?_),h.rsd.off hk (zaG hs) ht.1⟩
 ·obtain⟨_,ds,h1,_⟩:=h.rows.at_ e;exact zbo h1 hk de9 rfl
 ·obtain⟨_,ds,h1,_⟩:=h.atD e;exact zbo h1 hk de9 rfl
theorem LuS.turnD (h:LuS w g m e A n cA B k cB D l cD x0 x1 x2 qs){q:Nat}(hq:(Value.slice D l cD).ownBlock=some q)(ht:zaK q w w'):Blk w' g 142 #[.slice A n cA,.slice B k cB,.slice D l cD,x0,x1,x2]/\zdb w' g (.slice A n cA) m e.S qs/\(∃us,zcc zaf w' g 41 (.slice B k cB) e.T us)/\RV w' e.rd x0 x1 x2:=by
 obtain⟨us,hu⟩:=h.times;obtain⟨_,cs,hk,hs⟩:=h.atD hq;refine⟨ht.2 _ _ _ (Ne.symm (zbo hk h.blk de9)) h.blk,h.rows.turn ht hk (ziI hs) (λe=>?_) (λe=>?_),⟨us,hu.turn ht hk (ziI hs) λe=>?_⟩,h.rsd.off hk (ziI hs) ht.1⟩
 ·obtain⟨_,ds,h1,_⟩:=h.rows.at_ e;exact zbo h1 hk de9 rfl
 ·obtain⟨_,ds,h1,_⟩:=h.atQ e;exact zbo h1 hk de9 rfl
 ·obtain⟨_,ds,h1,_⟩:=h.atB e;exact zbo h1 hk de9 rfl
theorem LuS.turnQ (h:LuS w g m e A n cA B k cB D l cD x0 x1 x2 qs){i:Nat}(hi:i<n){L:List Rat}(ht:zaK (qs.getD i 0) w w')(hv:zaI w' (qs.getD i 0) m L):LuS w' g m {e with S:=e.S.set i L} A n cA B k cB D l cD x0 x1 x2 qs:=by
 obtain⟨us,hu⟩:=h.times;have a:=h.rows.len;have c:i<e.S.length:=by rw [h.hn];exact hi
 have b:qs.getD i 0 ∈ qs:=zdG om9;obtain⟨_,cs,hk,hs⟩:=h.atQ b;exact {
  blk:=ht.2 _ _ _ (Ne.symm (zbo hk h.blk de9)) h.blk
  hn:=by rw [<-h.hn];exact List.length_set
  hk:=h.hk
  hl:=h.hl
  rows:={
   own:=⟨by show(slV m qs).length=(e.S.set i L).length*1;rw [List.length_set];exact h.rows.own.1,by
    show _\/_;rw [List.length_set];rcases h.rows.own.2 with h1|⟨g',cap,cur,e1,e2,e3,e4⟩
    ·exact .inl h1
    ·exact .inr ⟨g',cap,cur,e1,e2,ht.2 g' _ cur (zbo e3 hk de9) e3,e4⟩⟩
   sl:=λq e=>by
    obtain⟨cur,s',h1,h2⟩:=h.rows.sl q e;obtain⟨_,ds,h3,_⟩:=h.rows.at_ e;exact⟨cur,s',ht.2 q s' cur (zbo h3 hk de9) h1,h2⟩
   len:=by show qs.length=(e.S.set i L).length;rw [List.length_set];exact a
   row:=λj hj=>by
    have hj:j<(e.S.set i L).length:=hj;rw [List.length_set] at hj;by_cases hij:j=i
    ·subst hij;rw [zfP _ c];exact hv
    ·rw [zey _ hij];refine(h.rows.row j hj).turn ht hk (zaG hs) λe=>hij ?_;have h1:qs[j]?=some (qs.getD j 0):=zbi om9;have h2:qs[i]?=some (qs.getD i 0):=zbi om9;rw [List.getElem?_eq_getElem om9] at h1 h2;injection h1 with h1;injection h2 with h2;exact zkG h.rows.nd om9 om9 (h1.trans (e.trans h2.symm))
   lo:=h.rows.lo
   nd:=h.rows.nd}
  times:=⟨us,hu.turn ht hk (zaG hs) λe=>h.tq _ e b⟩
  perm:=h.perm.turn ht λe=>by obtain⟨_,ds,h1,_⟩:=h.atD e;exact zbo h1 hk de9 rfl
  rsd:=h.rsd.off hk (zaG hs) ht.1
  tq:=h.tq}
end
