/- What this claim leans on. -/
import Derived.Test.YtkcjgcflloldoaaGreatDoorPEAwake
set_option linter.unusedVariables false
set_option linter.unusedSimpArgs false
namespace Go.Proofs.YtkcjgcflloldoaaGreatDoor
open Go Go.RowKit Go.Proofs.Tryz
set_option maxHeartbeats 16000000
set_option maxRecDepth 100000
variable {M:List (List Rat)}{c n:Nat}{v':Value}{w:World}
theorem Pb {a s:Nat}{t:TypeId}{v:Value}{xs:List Value}(h:w.ownsRow a t s v n xs):∃A c,v=.slice A n c:=by
 rcases h.2 with⟨h1,h2⟩|⟨g,cap,cur,h1,_⟩
 ·subst h2;exact⟨_,_,h1⟩
 ·exact⟨_,_,h1⟩
section
variable {w w':World}{g m:Nat}{e:xh}{n cA:Nat}{k cB:Nat}{l cD:Nat}{A B D:ze}{x0 x1 x2:Value}{qs:List Nat}
theorem zF.growRow {q:Nat}{L:List Rat}(h:zF w g m e A n cA B k cB D l cD x0 x1 x2 qs)(hg:w.grownBy w' (Value.slice A n cA).ownBlock)(ho:w'.ownsRow g 58 1 v' (n+1) (uW m qs++[.slice (some ⟨q,0,none⟩) m m]))(hp:wC w' v')(hv:yn w q m L)(hq:g<q)(C:q ∉ qs)(z:(Value.slice B k cB).ownBlock≠some q):
  ∃A' cA',v'=.slice A' (n+1) cA'/\zF (w'.setCell ⟨g,0,none⟩ v') g m {e with S:=e.S++[L]} A' (n+1) cA' B k cB D l cD x0 x1 x2 (qs++[q]):=by
 have s:zh w' g 82 #[.slice A n cA,.slice B k cB,.slice D l cD,x0,x1,x2]/\(∃us,yx zp w' g 54 (.slice B k cB) e.T us)/\wM w' g (.slice D l cD) e.P/\RV w' e.rd x0 x1 x2/\(∀i,i<e.S.length->yn w' (qs.getD i 0) m (e.S.getD i []))/\yn w' q m L:=by
  cases hA:(Value.slice A n cA).ownBlock with
  |none=>
    rw [hA] at hg;have hb:=sU hg;have h2:=h.below hb;exact⟨h2.blk,h2.times,h2.perm,h2.rsd,h2.rows.row,hv.keep hb⟩
  |some b=>
    rw [hA] at hg;obtain⟨b1,b2,b3,b4,b5⟩:=h.turnA hA (ya.grown hg);obtain⟨_,cs,h1,hs⟩:=h.rows.at_ hA;obtain⟨ds,h2,_⟩:=hv.blk;exact⟨b1,b2,b3,b4,b5,hv.turn (ya.grown hg) h1 (fE hs) (xu h2 h1 zf)⟩
 obtain⟨b1,⟨us,b2⟩,b3,b4,b5,b6⟩:=s;have hn:=h.hn;have hl:=h.rows.len;have c : vW w' g v' m (e.S ++ [L]) (qs ++ [q]):={
  own:=by
   have e1:uW m (qs++[q])=uW m qs++[.slice (some ⟨q,0,none⟩) m m]:=by unfold uW;rw [YG];rfl
   rw [e1,qT,hn];exact ho
  sl:=hp
  len:=by rw [qT,qT,hl];rfl
  row:=λi hi=>by
   rw [qT] at hi;by_cases hlt:i<e.S.length
   ·rw [qQ,QH za,<-qQ,qQ (l:=e.S++[L]),QH hlt,<-qQ];exact b5 i hlt
   ·have y:i=e.S.length:=by simp at hi;omega
    subst y;rw [qQ,QJ za,hl,XG,qQ (l:=e.S++[L]),QJ za,XG];exact b6
  lo:=λq9 h9=>by
   rcases List.mem_append.1 h9 with h9|h9
   ·exact h.rows.lo q9 h9
   ·rw [List.mem_singleton.1 h9];exact hq
  nd:=by
   rw [List.nodup_append];refine⟨h.rows.nd,zG,λa ha b hb=>?_⟩;rw [List.mem_singleton.1 hb];intro e9;exact C (e9▸ha)}
 have d:=h.nok;have ht:=ya.set_ g 0 w' v';have t:v'.ownBlock≠some g:=λe9=>by
  obtain⟨_,cs,h1,_⟩:=c.at_ e9;exact xu h1 b1 zf rfl
 have u:(Value.slice B k cB).ownBlock≠some g:=λe9=>by obtain⟨_,cs,h1,_⟩:=h.atB e9;exact xu h1 h.blk zf rfl
 have v:(Value.slice D l cD).ownBlock≠some g:=λe9=>by obtain⟨_,cs,h1,_⟩:=h.atD e9;exact xu h1 h.blk zf rfl
 have o:=c.turn ht b1 d t (λe9=>by have:=c.lo g e9;omega);have E:∀q9,(Value.slice B k cB).ownBlock=some q9->q9 ∉ qs++[q]:=λq9 h9 h8=>by
  rcases List.mem_append.1 h8 with h8|h8
  ·exact h.tq q9 h9 h8
  ·rw [List.mem_singleton.1 h8] at h9;exact z h9
 have j:(e.S++[L]).length=n+1:=by rw [qT,hn];rfl
 obtain⟨A',c',eA⟩:=Pb o.own;rw [j] at eA;subst eA;exact⟨A',c',rfl,{blk:=b1.set_ 0 _,hn:=j,hk:=h.hk,hl:=h.hl,rows:=o,times:=⟨us,b2.turn ht b1 d u⟩,perm:=b3.turn ht v,rsd:=b4.off b1 d ht.1,tq:=E}⟩
theorem zF.growTime {x:Rat}{us:List Value}{b:Bool}{C F:ze}{p d u f:Nat}(h:zF w g m e A n cA B k cB D l cD x0 x1 x2 qs)(hu:yx zp w g 54 (.slice B k cB) e.T us)(hg:w.grownBy w' (Value.slice B k cB).ownBlock)(ho:w'.ownsRow g 54 3 v' (k+1) (us++[.bool b,.slice C p d,.slice F u f]))(hp:wV w' v')(hx:zp w x b C p d F u f)(i:v'.ownBlock=(Value.slice B k cB).ownBlock\/v'.ownBlock=some w.heap.size):
  ∃B' cB',v'=.slice B' (k+1) cB'/\zF (w'.setCell ⟨g,1,none⟩ v') g m {e with T:=e.T++[x]} A n cA B' (k+1) cB' D l cD x0 x1 x2 qs:=by
 have j:zh w' g 82 #[.slice A n cA,.slice B k cB,.slice D l cD,x0,x1,x2]/\vW w' g (.slice A n cA) m e.S qs/\wM w' g (.slice D l cD) e.P/\RV w' e.rd x0 x1 x2:=by
  cases hB:(Value.slice B k cB).ownBlock with
  |none=>
    rw [hB] at hg;have h2:=h.below (sU hg);exact⟨h2.blk,h2.rows,h2.perm,h2.rsd⟩
  |some b=>
    rw [hB] at hg;exact h.turnB hB (ya.grown hg)
 obtain⟨b1,b2,b3,b4⟩:=j;have hk:=h.hk;have v:=yx.grow yt hu hx ho za hg hp;have a:=h.nok;have ht:=ya.set_ g 1 w' v';have y:∀q,v'.ownBlock=some q->q ∉ qs:=λq e9 h9=>by
  rcases i with h1|h1
  ·exact h.tq q (h1▸e9) h9
  ·rw [h1] at e9;injection e9 with e9;obtain⟨_,cs,h2,_⟩:=h.atQ h9;have:=h2.lt;omega
 have s:v'.ownBlock≠some g:=λe9=>by
  rcases i with h1|h1
  ·obtain⟨_,cs,h2,_⟩:=h.atB (h1▸e9);exact xu h2 h.blk zf rfl
  ·rw [h1] at e9;injection e9 with e9;have:=h.lt;omega
 have o:(Value.slice A n cA).ownBlock≠some g:=λe9=>by obtain⟨_,cs,h1,_⟩:=h.rows.at_ e9;exact xu h1 h.blk zf rfl
 have t:(Value.slice D l cD).ownBlock≠some g:=λe9=>by obtain⟨_,cs,h1,_⟩:=h.atD e9;exact xu h1 h.blk zf rfl
 have c:=v.turn ht b1 a s;obtain⟨B',c',eB,_⟩:=c.shape;rw [qT,hk] at eB;have eB:v'=.slice B' (k+1) c':=eB;subst eB;exact⟨B',c',rfl,{blk:=b1.set_ 1 _,hn:=h.hn,hk:=by show(e.T++[x]).length=k+1;rw [qT,hk];rfl,hl:=h.hl,rows:=b2.turn ht b1 a o (λe9=>by have:=h.rows.lo g e9;omega),times:=⟨_,c⟩,perm:=b3.turn ht t,rsd:=b4.off b1 a ht.1,tq:=y}⟩
theorem zF.growPerm (h:zF w g m e A n cA B k cB D l cD x0 x1 x2 qs)(hg:w.grownBy w' (Value.slice D l cD).ownBlock)(ho:w'.ownsRow g 3 1 v' (l+1) (vG e.P++[.int .i64 (c:Int)]))(hp:nf gz w' v'):
  ∃D' cD',v'=.slice D' (l+1) cD'/\zF (w'.setCell ⟨g,2,none⟩ v') g m {e with P:=e.P++[c]} A n cA B k cB D' (l+1) cD' x0 x1 x2 qs:=by
 have j:zh w' g 82 #[.slice A n cA,.slice B k cB,.slice D l cD,x0,x1,x2]/\vW w' g (.slice A n cA) m e.S qs/\(∃us,yx zp w' g 54 (.slice B k cB) e.T us)/\RV w' e.rd x0 x1 x2:=by
  cases hD:(Value.slice D l cD).ownBlock with
  |none=>
    rw [hD] at hg;have h2:=h.below (sU hg);exact⟨h2.blk,h2.rows,h2.times,h2.rsd⟩
  |some b=>
    rw [hD] at hg;exact h.turnD hD (ya.grown hg)
 obtain⟨b1,b2,⟨us,b3⟩,b4⟩:=j;have hl:=h.hl;have i:wM w' g v' (e.P++[c]):=⟨by
  have:vG (e.P++[c])=vG e.P++[.int .i64 (c:Int)]:=by unfold vG;rw [YG];rfl
  rw [this,qT,hl];exact ho,hp⟩
 have a:=h.nok;have ht:=ya.set_ g 2 w' v';have o:(Value.slice A n cA).ownBlock≠some g:=λe9=>by obtain⟨_,cs,h1,_⟩:=h.rows.at_ e9;exact xu h1 h.blk zf rfl
 have s:(Value.slice B k cB).ownBlock≠some g:=λe9=>by obtain⟨_,cs,h1,_⟩:=h.atB e9;exact xu h1 h.blk zf rfl
 have t:v'.ownBlock≠some g:=λe9=>by
  rcases i.own.2 with⟨h1,_⟩|⟨g',cap,cur,e1,e2,e3,_⟩
  ·rw [h1] at e9;cases e9
  ·rw [e1] at e9;simp [Value.ownBlock] at e9;subst e9;exact xu e3 b1 zf rfl
 have d:=i.turn ht t;obtain⟨D',c',eD,_⟩:=d.shape;rw [qT,hl] at eD;have eD:v'=.slice D' (l+1) c':=eD;subst eD;exact⟨D',c',rfl,{blk:=b1.set_ 2 _,hn:=h.hn,hk:=h.hk,hl:=by show(e.P++[c]).length=l+1;rw [qT,hl];rfl,rows:=b2.turn ht b1 a o (λe9=>by have:=h.rows.lo g e9;omega),times:=⟨us,b3.turn ht b1 a s⟩,perm:=d,rsd:=b4.off b1 a ht.1,tq:=h.tq}⟩
theorem zF.ownA (h:zF w g m e A n cA B k cB D l cD x0 x1 x2 qs):∀q,(Value.slice A n cA).ownBlock=some q->g<=q:=λq e9=>(h.rows.at_ e9).1
theorem zF.ownB (h:zF w g m e A n cA B k cB D l cD x0 x1 x2 qs):∀q,(Value.slice B k cB).ownBlock=some q->g<=q:=λq e9=>(h.atB e9).1
theorem zF.ownD (h:zF w g m e A n cA B k cB D l cD x0 x1 x2 qs):∀q,(Value.slice D l cD).ownBlock=some q->g<=q:=λq e9=>(h.atD e9).1
end
theorem zF.new {b2:Bool}{A2 E2:ze}{n2 c2 k2 f2:Nat}(w:World)(m:Nat)(h2:zp w 1 b2 A2 n2 c2 E2 k2 f2):zF (w.alloc (.cells #[.slice none 0 0,.slice none 0 0,.slice none 0 0,.bool b2,.slice A2 n2 c2,.slice E2 k2 f2] 82)) w.heap.size m ⟨[],[],[],1⟩ none 0 0 none 0 0 none 0 0 (.bool b2) (.slice A2 n2 c2) (.slice E2 k2 f2) []:=by
 obtain⟨hb,hk,-⟩:=zw w 82 #[.slice none 0 0,.slice none 0 0,.slice none 0 0,.bool b2,.slice A2 n2 c2,.slice E2 k2 f2];exact{blk:=hk,hn:=rfl,hk:=rfl,hl:=rfl,rows:=vW.nil _ _ _,times:=⟨[],yx.nil _ _ _⟩,perm:=wM.nil _ _,rsd:=RV.of (h2.below hb),tq:=λq h=>by simp [Value.ownBlock] at h}
def eG (M:List (List Rat))(i:Nat):xh:=⟨vN (M.take i),(M.take i).map zM,List.range i,uj (M.take i)⟩
theorem mI (h:M.length=n):eG M n=sN M:=by
 unfold eG sN;rw [qV za,h]
theorem NM {i:Nat}(h:i<M.length):(M.take (i+1)).map zM=(M.take i).map zM++[zM (M.getD i [])]:=by
 rw [qC h,YG,qQ,qY h];rfl
theorem Ri {P:Program}{Pc:Value->Prop}{D:Array Oper}{rest:List Oper}{o:Oper}{a:Act}{Q:Exit->Act->World->Prop}(G:o.guard=none)(s x:Operand)(t:TypeId)
  (ho:o.op=.call {callee:=.builtin .append,args:=#[s,x],argTypes:=#[t,t]})
  (g:Nat) (e:TypeId) (i:TypeInfo) (z:Value) (size bytes:Nat) (ht:P.underlying t=some (.slice e)) (hi:P.info? e=some i) (hz:i.zero=some z)
  (B:i.size=size) (F:i.bytes=bytes) (J:z.cells.size=size) (hsz:0<size)
  (v:Value) (n:Nat) (xs:List Value) (hs:a.eval s=v) (C:w.ownsRow g e size v n xs)
  (ad:Addr) (m c:Nat) (d:List Value) (hx:a.eval x=.slice (some ad) m c) (hl:d.length=m*size) (A:∀j u,d[j]?=some u->w.cell? (ad.add j)=some u) (h1:∀u ∈ d,u.oneCell'=true)
  (E:n+m<=maxLen) (k:(n+m)*bytes<=140737488355328) (y:g<=w.heap.size)
  (hv:nf Pc w v) (I:∀u ∈ z.cells.toList,Pc u) (H:∀u ∈ d,Pc u)
  (h:∀v' w',w'.ownsRow g e size v' (n+m) (xs++d)->w.grownBy w' v.ownBlock->(v'.ownBlock=v.ownBlock\/v'.ownBlock=some w.heap.size)->nf Pc w' v'->wpList P D Q rest (a.put o.dst v') w'):
  wpList P D Q (o::rest) a w:=by
 refine wpList_plain G λK hK=>?_;obtain⟨v',w',hr,h2,h3,h4,h5⟩:=Rz (P:=P) w g t o.type e i z size bytes ht hi hz B F J hsz v n xs C ad m c d hl A h1 E k y hv I H;unfold Oper.wp execOp;simp only [ho,resolve,invoke,builtin,Sem.run_bind,Sem.run_pure,Result.andThen_ok,YQ,yV,List.map_nil,hs,hx,hr];exact hK _ _ (h v' w' h2 h3 h4 h5)
def xv (S C:List (List Rat))(x0:List Rat):Nat->List Rat
 |0=>x0
 |k+1=>uL k (zK (zn S) k) (xv S C x0 k) (C.getD k [])
def wn (n:Nat)(S:List (List Rat))(D:Rat)(x:List Rat):Nat->List Rat
 |0=>[]
 |d+1=>((D*x.getD (n - (d+1)) 0 - sM ((S.getD (n - (d+1)) []).drop (n - d)) (wn n S D x d)) / zn S (n - (d+1)) (n - (d+1)))::wn n S D x d
def uD (n:Nat)(S C:List (List Rat))(b:List Rat):List Rat:=zT (zK (zn S) n*zM b)⁻¹ (wn n S (zK (zn S) n) (xv S C (zT (zM b) b) n) n)
structure vj (n K L:Nat)(a:Nat->Nat->Rat)(S C:List (List Rat))(b:List Rat):Prop where
 dS:zQ S n n
 dC:zQ C n n
 turn:∀i,i<n->∀k,k<n->zn C k i=zn S i k
 inv:wY n n a (zn S)
 det:zK (zn S) n=zD n a
 ali:∀i,i<n->∀j,j<n->LI K (a i j)
 zS:yc L S
 zC:yc L C
 len:b.length=n
 tli:LI K (zM b)
 bli:∀i,i<n->LI K (zM b*b.getD i 0)
theorem cX (n:Nat)(S:List (List Rat))(D:Rat)(x:List Rat):∀d,(wn n S D x d).length=d
 |0=>rfl
 |d+1=>by show(_::_).length=_;rw [xO,cX n S D x d]
theorem rR {n:Nat}{S:List (List Rat)}{D:Rat}{x:List Rat}:∀e d j,(wn n S D x (d+e)).getD (e+j) 0=(wn n S D x d).getD j 0
 |0,d,j=>by rw [xR];rfl
 |e+1,d,j=>by
   rw [show e+1+j=(e+j)+1 by omega,<-xH];show(_::wn n S D x (d+e)).getD (e+j+1) 0=_;rw [List.getD_cons_succ];exact rR e d j
theorem UH (f:Nat->Rat)(m:Nat):∀d,zv (m+d) (λj=>if m<=j then f j else 0)=zv d λi=>f (m+i)
 |0=>by rw [u3 λj hj=>if_neg za];rfl
 |d+1=>by rw [<-xH,xz,xz,UH f m d,if_pos za]
section
variable {n K L:Nat}{a:Nat->Nat->Rat}{S C:List (List Rat)}{b:List Rat}
theorem Zk {x0:List Rat}(hC:zQ C n n)(hx:x0.length=n):∀c,c<=n->(xv S C x0 c).length=n
 |0,_=>hx
 |c+1,hc=>aG (Zk hC hx c za) (hC.row za) za
theorem aJ {r:Rat}{xs:List Rat}:(zT r xs).length=xs.length:=by unfold zT;rw [QP]
theorem vj.fwd (h:vj n K L a S C b):so n (zn S) (λi=>zM b*b.getD i 0) (λc i=>(xv S C (zT (zM b) b) c).getD i 0) where
 ne:=h.inv.ne
 zero:=λi _=>nw _
 step:=λc hc i hi=>by
  have hl:(zT (zM b) b).length=n:=by rw [aJ];exact h.len
  show(uL c _ _ _).getD i 0=_;rw [VQ (Zk h.dC hl c za) (h.dC.row hc) hc hi];have e1:(C.getD c []).getD c 0=zn S c c:=h.turn c hc c hc;have e2:(C.getD c []).getD i 0=zn S i c:=h.turn i hi c hc;rw [e1,e2]
theorem vj.xsz (h:vj n K L a S C b)(hn:n<=64){c:Nat}(hc:c<=n):zN (67+65*K) (xv S C (zT (zM b) b) c):=λx hx=>by
 have hl:=Zk (S:=S) h.dC (by rw [aJ];exact h.len:(zT (zM b) b).length=n) c hc;obtain⟨i,hi,e⟩:=List.mem_iff_getElem.1 hx;have:=h.fwd.sz h.inv hn h.ali h.bli hc (i:=i) za;rw [<-e,show(xv S C (zT (zM b) b) c)[i]=(xv S C (zT (zM b) b) c).getD i 0 by rw [qQ,qY hi];rfl];exact this.szq za
def zX (n:Nat)(S C:List (List Rat))(b:List Rat)(j:Nat):Rat:=(wn n S (zK (zn S) n) (xv S C (zT (zM b) b) n) n).getD j 0
theorem oQ {d j:Nat}(hd:d<=n):(wn n S (zK (zn S) n) (xv S C (zT (zM b) b) n) d).getD j 0=zX n S C b (n - d+j):=by
 have:=rR (n:=n) (S:=S) (D:=zK (zn S) n) (x:=xv S C (zT (zM b) b) n) (n - d) d j;rw [show d+(n - d)=n by omega] at this;exact this.symm
theorem vj.rel (h:vj n K L a S C b){k:Nat}(hk:k<n):zv n (λj=>if k<=j then zn S k j*zX n S C b j else 0)=zK (zn S) n*(xv S C (zT (zM b) b) k).getD k 0:=by
 have h0:=h.inv.ne k hk;have e1:=TK hk (λj=>zn S k j*zX n S C b j) (λ_=>true);simp only [and_true,if_true] at e1;rw [e1];have e2:=UH (λj=>zn S k j*zX n S C b j) (k+1) (n - (k+1));rw [show k+1+(n - (k+1))=n by omega] at e2;rw [e2];have hz:zX n S C b k=(zK (zn S) n*(xv S C (zT (zM b) b) n).getD k 0 - sM ((S.getD k []).drop (k+1)) (wn n S (zK (zn S) n) (xv S C (zT (zM b) b) n) (n - (k+1)))) / zn S k k:=by
  have:=oQ (n:=n) (S:=S) (C:=C) (b:=b) (d:=n - (k+1)+1) (j:=0) za;rw [show n - (n - (k+1)+1)+0=k by omega] at this;rw [<-this];show(_::_).getD 0 0=_;rw [List.getD_cons_zero,show n - (n - (k+1)+1)=k by omega,show n - (n - (k+1))=k+1 by omega]
 have c:sM ((S.getD k []).drop (k+1)) (wn n S (zK (zn S) n) (xv S C (zT (zM b) b) n) (n - (k+1)))=zv (n - (k+1)) λi=>zn S k (k+1+i)*zX n S C b (k+1+i):=by
  rw [OR (k:=n - (k+1)) (by rw [xK,h.dS.row hk]) (cX _ _ _ _ _)];refine yj λi _=>?_;rw [Wm,oQ za,show n - (n - (k+1))+i=k+1+i by omega];rfl
 have hx:(xv S C (zT (zM b) b) n).getD k 0=(xv S C (zT (zM b) b) k).getD k 0:=h.fwd.late' hk za (qX n);rw [hz,c,hx]
 grind
theorem vj.solves (h:vj n K L a S C b):∀i,i<n->zv n (λj=>a i j*zX n S C b j)=zD n a*(zM b*b.getD i 0):=by
 rw [<-h.det];exact h.fwd.solves h.inv λk hk=>h.rel hk
theorem vj.dne (h:vj n K L a S C b):zK (zn S) n≠0:=h.inv.pr (qX n)
theorem vj.zsz (h:vj n K L a S C b)(hn:n<=64){k:Nat}(hk:k<n):LI (65+64*K) (zX n S C b k):=(OK hn h.ali h.bli (by rw [<-h.det];exact h.dne) h.solves hk).2
theorem vj.bsz (h:vj n K L a S C b)(hn:n<=64){d:Nat}(hd:d<=n):zN (65+64*K) (wn n S (zK (zn S) n) (xv S C (zT (zM b) b) n) d):=λx hx=>by
 have hl:=cX n S (zK (zn S) n) (xv S C (zT (zM b) b) n) d;obtain⟨i,hi,e⟩:=List.mem_iff_getElem.1 hx;rw [<-e,show(wn n S (zK (zn S) n) (xv S C (zT (zM b) b) n) d)[i]=(wn n S (zK (zn S) n) (xv S C (zT (zM b) b) n) d).getD i 0 by rw [qQ,qY hi];rfl,oQ hd];exact(h.zsz hn za).szq za
theorem vj.dsz (h:vj n K L a S C b)(hn:n<=64):LI (65+64*K) (zK (zn S) n):=by
 rw [h.det];refine(LI.det_ hn h.ali).up ?_;have:n*(K+1)<=64*(K+1):=qE _ hn;omega
theorem vj.tne (h:vj n K L a S C b):zM b≠0:=Zg (by decide+kernel)
theorem NJ:(uD n S C b).length=n:=by unfold uD;rw [aJ,cX]
end
def ve (M:List (List Rat))(k:Int):Nat->List (List Rat)
 |0=>[]
 |i+1=>if (i:Int)=k then ve M k i else ve M k i++[M.getD i []]
theorem XF (M:List (List Rat))(k:Int):∀i,(ve M k i).length<=i
 |0=>qX _
 |i+1=>by
   have h:=XF M k i;unfold ve
   split
   ·omega
   ·rw [qT,yI];omega
theorem Yx {M:List (List Rat)}{n m:Nat}(h:zQ M n m)(k:Int):∀i,i<=n->∀L ∈ ve M k i,L.length=m
 |0,_,L,hL=>by cases hL
 |i+1,hi,L,hL=>by
   unfold ve at hL
   split at hL
   ·exact Yx h k i za L hL
   ·rcases List.mem_append.1 hL with hL|hL
    ·exact Yx h k i za L hL
    ·rw [List.mem_singleton] at hL;subst hL;exact h.row hi
theorem Ta (M:List (List Rat))(k:Int):∀i,i<=M.length->(∀j,j<i->(j:Int)≠k)->ve M k i=M.take i
 |0,_,_=>by simp [ve]
 |i+1,hi,hk=>by
   unfold ve;rw [if_neg (hk i (Nat.lt_succ_self i)),Ta M k i za (λj hj=>hk j za),qC hi,qQ,qY hi];rfl
theorem U9 {M:List (List Rat)}{r:Nat}(hr:r<M.length):∀i,r<i->i<=M.length->ve M (r:Int) i=vz (M.take i) r
 |0,h,_=>absurd h za
 |i+1,h,hi=>by
   unfold ve;by_cases e:(i:Int)=(r:Int)
   ·have e2:i=r:=za;subst e2;rw [if_pos e,Ta M _ i za (λj hj=>by omega),qC hi,Oc (by rw [qL];omega)]
   ·rw [if_neg e,U9 hr i za za,qC hi,qQ,qY hi];unfold vz;rw [List.eraseIdx_append_of_lt_length (by rw [qL];omega)];rfl
theorem pP {r:Nat}(h:M.length=n)(hr:r<n):ve M (r:Int) n=vz M r:=by
 subst h;rw [U9 hr _ hr (qX _),List.take_length]
theorem Rx {A:ze}{m:Nat}{z:Int}(h:xj w A n c m M):
  Calls prog 96 #[.slice A n c,.int .i64 z] w (λe w'=>∃(A':ze) (c':Nat),e=.returned (.slice A' (ve M z n).length c')/\xj w' A' (ve M z n).length c' m (ve M z n)/\Below w.heap.size w w'):=by
 obtain⟨i9,Z,ae,N,O⟩:=info_parts Y8;have ac:n<=64:=h.hn;have ab:m<=64:=h.hm;have HM:=zb h;have HD:=zb h.dims;clear h;have hB:=qZ w.heap.size w;go_enter func96,ntmps96;go_wp2_with fail
 go_loopg [5,6] (n+1) (λg sl ix wr=>∃(k:Nat) (v:Value) (vs:List Value),k<=n/\n<g+k/\ix=.int .i64 k/\v=sl/\xe (zZ xd) wr w.heap.size 78 v (ve M z k) vs/\Below w.heap.size w wr)
 case atStart=>exact⟨0,_,_,QQ _,za,rfl,rfl,xe.nil _ _ _,hB⟩
 case round=>
  clear hB;obtain⟨k,v,vs,hkn,hg,rfl,rfl,i,hB⟩:=hrel;by_cases hlt:k<n
  ·have X:decide ((k:Int)<(n:Int))=true:=decide_eq_true za;have J:decide (k<n)=true:=decide_eq_true hlt;have i1:(0:Int)<=(k:Int):=za;have i2:(k:Int)<(n:Int):=za;obtain⟨ad,Bk,dk,rfl,-,hck,t⟩:=HM.o.row hB hlt;by_cases hk:(k:Int)=z
   ·have Y:((k:Int) !=z)=false:=by rw [hk];simp
    have HE:zd (ve M z (k+1)=ve M z k):=by show _=_;rw [ve,if_pos hk]
    have d:=zb i;have HB:=zb hB;clear i hB hk t;go_wp2;go_roundg (n - k)
    case measure=>omega
    case rel=>exact⟨k+1,_,_,za,za,by go_num,rfl,HE.o▸d.o,HB.o⟩
   ·have Y:((k:Int) !=z)=true:=by simp [hk]
    have HE:zd (ve M z (k+1)=ve M z k++[M.getD k []]):=by show _=_;rw [ve,if_neg hk]
    have E:=zb (HD.o.row hlt);have aa:=XF M z k;obtain⟨q,hq⟩:∃q,(ve M z k).length=q:=⟨_,rfl⟩;rw [hq] at aa;obtain⟨Lk,I⟩:∃L,M.getD k []=L:=⟨_,rfl⟩;rw [I] at t HE E;obtain⟨t1,t2,-⟩:=zw wr 78 #[.slice Bk m dk];have d:=zb (i.below (yk wf) t1);have HR:=zb (zZ.below wf t t1);have HB:=zb (zc hB t1);have o:=d.o.own;rw [hq] at o;have H:=zb o;have S:=zb hq;have T:=zb d.o.sl;have C:=zb (vI wr (.slice Bk m dk) 78);have D:=zb HB.o.size;have R:=zb (λr (h:v.ownBlock=some r)=>d.o.own.lt r h);have U:zd (∀u ∈(Value.slice none 0 0).cells.toList,xc u):=by intro u hu;simp [Value.cells] at hu;exact⟨_,_,_,hu⟩
    have Q:zd (∀u ∈ [Value.slice Bk m dk],xc u):=by intro u hu;simp at hu;exact⟨_,_,_,hu⟩
    have G:zd (∀u ∈ [Value.slice Bk m dk],u.oneCell'=true):=by intro u hu;simp at hu;subst hu;rfl
    clear i t hB t1 t2 o hk I hq;go_upto_region 6 with fail;go_wp2_with (at_builtin;go_loud (refine bU _ rfl (.tmp 16) (.tmp 21) 31 rfl w.heap.size 78 i9 (.slice none 0 0) 1 24 underlying31 Z ae N O rfl zf v q vs rfl H.o ⟨wr.heap.size,0,none⟩ 1 1 [.slice Bk m dk] rfl rfl C.o G.o (by unfold maxLen;omega) za D.o T.o U.o Q.o ?_;intro v' w8 s a V y;have j:=xe.grow (n:=q+1) (L:=Lk) (yk wf) d.o HR.o E.o s (by rw [S.o]) a y;rw [<-HE.o] at j;have F:=zb j;have B:=zb (HB.o.grown a D.o (λr hr=>(R.o r hr).1));clear j s a V y));go_roundg (n - k)
    case measure=>omega
    case rel=>exact⟨k+1,_,_,za,za,by go_num,rfl,F.o,B.o⟩
  ·have hk:k=n:=za;subst hk;have X:decide ((k:Int)<(k:Int))=false:=zG;have J:decide (k<k)=false:=zG;obtain⟨A7,c7,rfl,K⟩:=i.refm (n:=(ve M z k).length) ⟨rfl,Yx HD.o z k (qX _)⟩ (qD (XF M z k) ac) ab;have P:=zb K;have B:=zb hB;clear i K hB;go_wp2;go_ret;exact⟨A7,c7,rfl,P.o,B.o⟩
