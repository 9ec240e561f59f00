/- What this claim leans on. -/
import Derived.Test.YtghpdeciaaagnaaGreatDoorIVVecs
namespace Go.Proofs.YtghpdeciaaagnaaGreatDoor
open Go Go.RowKit
set_option maxHeartbeats 16000000
set_option linter.unusedVariables false
set_option linter.unusedSimpArgs false
section
variable {α:Type}{E:El α}
theorem row_neS {w:World}{A:oA9}{n c g:Nat}{xs:List α}{t:TypeId}{cs:Array Value}(h:zaI E w A n c xs)(hk:Blk w g t cs)(hs:∀u ∈ cs.toList,∀b,u≠.bool b):0<n->∀ad,A=some ad->ad.block≠g:=λhn ad0 e0 hg=>by
 have hl:=h.len
 have h0:0<xs.length:=by omega
 obtain⟨ad,b,B,m,d,F,u,v,e,h1,h2,h3,h4,h5⟩:=h.num 0 _ (List.getElem?_eq_getElem h0)
 obtain rfl:ad0=ad:=by rw [e0] at e;injection e
 have hb:(ad0.add (0*3)).block=g:=by rw [zap];exact hg
 generalize ad0.add (0*3)=q at hb h2
 obtain⟨bk,off,pr⟩:=q
 simp only at hb
 subst hb
 unfold Blk at hk
 cases pr with
 |none=>
   rw [show w.cell? ⟨bk,off,none⟩=cs[off]? from cell_of_row w bk off _ t (0,0) hk,<-Array.getElem?_toList] at h2
   exact hs _ (List.mem_of_getElem? h2) b rfl
 |some q=>simp [World.cell?,hk] at h2
theorem zpJ {w w':World}{A:oA9}{n c g:Nat}{xs:List α}{t:TypeId}{cs:Array Value}(h:zaI E w A n c xs)(hk:Blk w g t cs)(hs:∀u ∈ cs.toList,∀b,u≠.bool b)(ho:zbl g w w')
  (hE:∀{x:α} {b:Bool} {A:oA9} {n c:Nat} {F:oA9} {k f:Nat},E w x b A n c F k f->E w' x b A n c F k f):zaI E w' A n c xs:=by
 have hne:=row_neS h hk hs
 refine⟨h.len,h.fits,h.most,λi x hi=>?_⟩
 have hl:=h.len
 have hlt:=(List.getElem?_eq_some_iff.1 hi).1
 obtain⟨ad,b,B,m,d,F,u,v,e,h1,h2,h3,h4,h5⟩:=h.num i x hi
 have hc:∀j,w'.cell? (ad.add j)=w.cell? (ad.add j):=λj=>ho.2 _ (by rw [zap];exact h1) (by rw [zap];exact hne (by omega) ad e)
 exact⟨ad,b,B,m,d,F,u,v,e,Nat.lt_of_lt_of_le h1 ho.1,(hc _).trans h2,(hc _).trans h3,(hc _).trans h4,hE h5⟩
theorem zrb {cs:Array Value}(hs:∀u ∈ cs.toList,zcr u):∀u ∈ cs.toList,∀b,u≠.bool b:=λu hu b e=>by
 obtain⟨A,n,c,e2⟩:=hs u hu
 rw [e2] at e
 cases e
theorem sl_nou {cs:Array Value}(hs:∀u ∈ cs.toList,zcr u):NoU cs:=λq hq k z e9=>by
 obtain⟨A9,n9,c9,e8⟩:=hs q hq
 rw [e8] at e9
 cases e9
theorem zhy (hE:zdT E){w w':World}{A:oA9}{n c g:Nat}{xs:List α}{t:TypeId}{cs:Array Value}(h:zaI E w A n c xs)(hk:Blk w g t cs)(hs:∀u ∈ cs.toList,zcr u)(ho:zbl g w w'):zaI E w' A n c xs:=
 zpJ h hk (zrb hs) ho (λh5=>hE.offg h5 hk (sl_nou hs) ho)
end
abbrev RP (α:Type):=World->oA9->Nat->Nat->List α->Prop
structure zbW {α:Type}(R:RP α):Prop where
 len:∀{w:World} {A:oA9} {n c:Nat} {xs:List α},R w A n c xs->xs.length=n
 below:∀{w w':World} {A:oA9} {n c:Nat} {xs:List α},R w A n c xs->Below w.heap.size w w'->R w' A n c xs
 offS:∀{w w':World} {A:oA9} {n c g:Nat} {xs:List α} {t:TypeId} {cs:Array Value},R w A n c xs->Blk w g t cs->(∀u ∈ cs.toList,zcr u)->zbl g w w'->R w' A n c xs
 nil:∀w:World,R w none 0 0 []
theorem zam {α:Type}{E:El α}(hE:zdT E):zbW (zaI E):=⟨λh=>h.len,λh hb=>h.below hE hb,λh hk hs ho=>zhy hE h hk hs ho,λw=>zaI.nil w⟩
theorem zbW.grown {α:Type}{R:RP α}(hR:zbW R){w w':World}{v:Value}{A:oA9}{n c:Nat}{xs:List α}(h:R w A n c xs)(hg:w.grownBy w' v.ownBlock)(hn:zbZ w v):R w' A n c xs:=by
 cases hv:v.ownBlock with
 |none=>rw [hv] at hg;exact hR.below h (zbw hg)
 |some g=>
   rw [hv] at hg
   obtain⟨t,cs,hk,hc⟩:=hn.blk hv
   exact hR.offS h hk hc (zbl.of_grown hg)
section
variable {α:Type}{R:RP α}
structure zaB (R:RP α)(w:World)(A:oA9)(n:Nat)(Ls:List (List α)):Prop where
 len:Ls.length=n
 num:∀i L,Ls[i]?=some L->∃(ad:Addr) (B:oA9) (d:Nat),A=some ad/\ad.block<w.heap.size/\w.cell? (ad.add i)=some (.slice B L.length d)/\R w B L.length d L
theorem zaB.below (hR:zbW R){w w':World}{A:oA9}{n:Nat}{Ls:List (List α)}(h:zaB R w A n Ls)(hb:Below w.heap.size w w'):zaB R w' A n Ls:=
 ⟨h.len,λi L hi=>by
  obtain⟨ad,B,d,e,h1,h2,h3⟩:=h.num i L hi
  exact⟨ad,B,d,e,Nat.lt_of_lt_of_le h1 hb.size,zac hb h2,hR.below h3 hb⟩⟩
theorem zaB.nil (w:World)(A:oA9):zaB R w A 0 []:=⟨rfl,λi L hi=>by simp at hi⟩
theorem zaB.get (hR:zbW R){w wr:World}{A:oA9}{n m:Nat}{Ls:List (List α)}(h:zaB R w A n Ls)(hb:Below w.heap.size w wr){i:Nat}(hi:i<n)(hm:(Ls.getD i []).length=m):∃(ad:Addr) (B:oA9) (d:Nat),A=some ad/\ad.block<w.heap.size/\wr.cell? (ad.add i)=some (.slice B m d)/\R wr B m d (Ls.getD i []):=by
 have hl:=h.len
 obtain⟨ad,B,d,e,h1,h2,h3⟩:=h.num i _ (zbE (d:=[]) (by omega))
 rw [hm] at h2 h3
 exact⟨ad,B,d,e,h1,zac hb h2,hR.below h3 hb⟩
theorem zaB.off {w w':World}{A:oA9}{n g:Nat}{Ls:List (List α)}(h:zaB R w A n Ls)(hf:∀ad,A=some ad->ad.block≠g)(ho:zbl g w w')(hE2:∀{B:oA9} {m d:Nat} {L:List α},R w B m d L->R w' B m d L):zaB R w' A n Ls:=
 ⟨h.len,λi L hi=>by
  obtain⟨ad,B,d,e,h1,h2,h3⟩:=h.num i L hi
  exact⟨ad,B,d,e,Nat.lt_of_lt_of_le h1 ho.1,(ho.2 _ (by rw [zap];exact h1) (by rw [zap];exact hf ad e)).trans h2,hE2 h3⟩⟩
structure zaC (R:RP α)(w:World)(t:TypeId)(g n:Nat)(Ls:List (List α)):Prop where
 len:Ls.length=n
 blk:∃cs:Array Value,Blk w g t cs/\(∀u ∈ cs.toList,zcr u)/\cs.size=n
 num:∀i L,Ls[i]?=some L->∃(B:oA9) (d:Nat),w.cell? ⟨g,i,none⟩=some (.slice B L.length d)/\R w B L.length d L
theorem zaC.lt {w:World}{t:TypeId}{g n:Nat}{Ls:List (List α)}(h:zaC R w t g n Ls):g<w.heap.size:=by
 obtain⟨cs,hk,_⟩:=h.blk
 exact hk.lt
theorem zaC.below (hR:zbW R){w w':World}{t:TypeId}{g n:Nat}{Ls:List (List α)}(h:zaC R w t g n Ls)(hb:Below w.heap.size w w'):zaC R w' t g n Ls:=by
 refine⟨h.len,?_,λi x hi=>?_⟩
 ·obtain⟨cs,hk,h1,h2⟩:=h.blk
  exact⟨cs,zaa hb hk,h1,h2⟩
 ·obtain⟨B,d,h1,h2⟩:=h.num i x hi
  exact⟨B,d,zac hb h1,hR.below h2 hb⟩
theorem zaC.rows {w:World}{t:TypeId}{g n:Nat}{Ls:List (List α)}(h:zaC R w t g n Ls):zaB R w (some ⟨g,0,none⟩) n Ls:=
 ⟨h.len,λi x hi=>by
  obtain⟨B,d,h1,h2⟩:=h.num i x hi
  exact⟨_,B,d,rfl,h.lt,by rw [zaP];exact h1,h2⟩⟩
theorem zaC.ready {w:World}{t:TypeId}{g n:Nat}{Ls:List (List α)}(h:zaC R w t g n Ls){i:Nat}(hi:i<n):∃a:Value,w.cell? ⟨g,i,none⟩=some a/\w.frozen? ⟨g,i,none⟩=false:=by
 obtain⟨cs,hk,h1,h2⟩:=h.blk
 have e0:i<cs.size:=by omega
 exact⟨_,(hk.cell _).trans (Array.getElem?_eq_getElem e0),hk.frozen _⟩
theorem zaC.set_ (hR:zbW R){w:World}{t:TypeId}{g n m:Nat}{Ls:List (List α)}(h:zaC R w t g n Ls){i:Nat}(hi:i<n){L:List α}{B:oA9}{d:Nat}(hx:R w B m d L)(hm:L.length=m):
  zaC R (w.setCell ⟨g,i,none⟩ (.slice B m d)) t g n (Ls.set i L):=by
 subst hm
 obtain⟨cs,hk,h1,h2⟩:=h.blk
 have ho:zbl g w (w.setCell ⟨g,i,none⟩ (.slice B L.length d)):=zbl.of_far ((zbj.refl g w).set_ i _)
 have hk3:=hk.set_ i (.slice B L.length d)
 refine⟨by rw [List.length_set];exact h.len,⟨_,hk3,?_,by simp;exact h2⟩,λj y hj=>?_⟩
 ·intro u hu
  rw [Array.toList_setIfInBounds] at hu
  rcases List.mem_or_eq_of_mem_set hu with hu|rfl
  ·exact h1 u hu
  ·exact⟨_,_,_,rfl⟩
 ·by_cases hij:i=j
  ·subst hij
   have hl:=h.len
   rw [List.getElem?_set_self (by omega)] at hj
   injection hj with hj
   subst hj
   refine⟨B,d,?_,hR.offS hx hk h1 ho⟩
   rw [hk3.cell,Array.getElem?_setIfInBounds_self_of_lt (by omega)]
  ·rw [List.getElem?_set_ne hij] at hj
   obtain⟨B',d',c1,c2⟩:=h.num j y hj
   refine⟨B',d',?_,hR.offS c2 hk h1 ho⟩
   rw [hk3.cell,Array.getElem?_setIfInBounds_ne (by omega),<-hk.cell]
   exact c1
def zdj:Array Value:=#[.slice none 0 0]
theorem znM (n:Nat):∀u ∈(madeCells zdj n).toList,zcr u:=by
 intro v hv
 rw [Array.mem_toList_iff,Array.mem_iff_getElem?] at hv
 obtain⟨j,hj⟩:=hv
 have hlt:j<n:=by
  have:=(Array.getElem?_eq_some_iff.1 hj).1
  rwa [size_madeCells] at this
 rw [zbF _ _ _ hlt,show zdj.size=1 from rfl,Nat.mod_one] at hj
 simp [zdj] at hj
 exact⟨_,_,_,hj.symm⟩
theorem zaC.made (hR:zbW R)(w:World)(t:TypeId)(n:Nat):zaC R (w.alloc (.cells (madeCells zdj n) t)) t w.heap.size n (List.replicate n []):=by
 have hk:=Blk.new w t (madeCells zdj n)
 refine⟨by simp,⟨_,hk,znM _,size_madeCells _ _⟩,λi x hi=>?_⟩
 have hlt:i<n:=by
  have:=(List.getElem?_eq_some_iff.1 hi).1
  simpa using this
 obtain rfl:[]=x:=by
  rw [List.getElem?_replicate,if_pos hlt] at hi
  injection hi
 refine⟨none,0,?_,hR.nil _⟩
 rw [hk.cell,zbF _ _ _ hlt,show zdj.size=1 from rfl,Nat.mod_one]
 rfl
structure zbv (R:RP α)(w:World)(base:Nat)(t:TypeId)(v:Value)(Ls:List (List α))(vs:List Value):Prop where
 own:w.ownsRow base t 1 v Ls.length vs
 sl:zbZ w v
 num:∀(i:Nat) (L:List α),Ls[i]?=some L->∃(B:oA9) (d:Nat),vs[i]?=some (Value.slice B L.length d)/\R w B L.length d L
theorem zbv.nil (w:World)(base:Nat)(t:TypeId):zbv R w base t (.slice none 0 0) [] []:=⟨World.ownsRow_nil _ _ _ _,zbZ.nil _ _,λi L hi=>by simp at hi⟩
theorem zbv.len {w:World}{base:Nat}{t:TypeId}{v:Value}{Ls:List (List α)}{vs:List Value}(h:zbv R w base t v Ls vs):vs.length=Ls.length:=by have:=h.own.1;omega
theorem zbv.shape {w:World}{base n:Nat}{t:TypeId}{v:Value}{Ls:List (List α)}{vs:List Value}(h:zbv R w base t v Ls vs)(hn:Ls.length=n):∃A c,v=.slice A n c/\n<=c/\c<=9223372036854775807/\zaB R w A n Ls/\∀ad,A=some ad->base<=ad.block:=by
 subst hn
 rcases h.own.2 with⟨rfl,h0⟩|⟨g,cap,cur,rfl,hbg,hg,hnc,hcm,hcs,htake⟩
 ·have hx:Ls=[]:=List.eq_nil_of_length_eq_zero h0
  subst hx
  exact⟨none,0,rfl,Nat.le_refl _,by decide,zaB.nil w none,λad e=>by cases e⟩
 ·have hcell:=h.own.cells (g:=g) rfl
  refine⟨some ⟨g,0,none⟩,cap,rfl,hnc,by unfold maxLen at hcm;omega,⟨rfl,λi L hi=>?_⟩,λad e=>by injection e with e;subst e;exact hbg⟩
  obtain⟨B,d,hv,hw⟩:=h.num i L hi
  exact⟨_,B,d,rfl,(Array.getElem?_eq_some_iff.1 hg).1,hcell _ _ hv,hw⟩
theorem zbv.below (hR:zbW R){w w':World}{base:Nat}{t:TypeId}{v:Value}{Ls:List (List α)}{vs:List Value}(h:zbv R w base t v Ls vs)(hb:Below w.heap.size w w'):zbv R w' base t v Ls vs:=by
 refine⟨⟨h.own.1,?_⟩,h.sl.below hb,λi L hi=>?_⟩
 ·rcases h.own.2 with h1|⟨g,cap,cur,e1,e2,e3,e4⟩
  ·exact .inl h1
  ·exact .inr ⟨g,cap,cur,e1,e2,(hb.block g (Blk.lt (t:=t) (cs:=cur) e3)).trans e3,e4⟩
 ·obtain⟨B,d,hv,hw⟩:=h.num i L hi
  exact⟨B,d,hv,hR.below hw hb⟩
theorem zbv.grow (hR:zbW R){w w':World}{base n m:Nat}{t:TypeId}{v v':Value}{Ls:List (List α)}{vs:List Value}{L:List α}{B:oA9}{d:Nat}(h:zbv R w base t v Ls vs)(hx:R w B m d L)(hm:L.length=m)
  (ho:w'.ownsRow base t 1 v' n (vs++[.slice B m d])) (hn:n=Ls.length+1) (hg:w.grownBy w' v.ownBlock) (hs:zbZ w' v'):zbv R w' base t v' (Ls++[L]) (vs++[.slice B m d]):=by
 subst hm
 have hl:=h.len
 refine⟨by rw [List.length_append,List.length_singleton,<-hn];exact ho,hs,λi M hi=>?_⟩
 by_cases hlt:i<Ls.length
 ·rw [List.getElem?_append_left hlt] at hi
  obtain⟨C,e,hv,hw⟩:=h.num i M hi
  exact⟨C,e,by rw [List.getElem?_append_left (by omega)];exact hv,hR.grown hw hg h.sl⟩
 ·rw [List.getElem?_append_right (by omega)] at hi
  have hi2:i=Ls.length:=by
   have:=(List.getElem?_eq_some_iff.1 hi).1
   simp at this
   omega
  subst hi2
  obtain rfl:L=M:=by
   rw [Nat.sub_self] at hi
   injection hi
  exact⟨B,d,by rw [List.getElem?_append_right (by omega),hl,Nat.sub_self];rfl,hR.grown hx hg h.sl⟩
theorem zgj (hR:zbW R){w:World}{g:Nat}{t:TypeId}{A B:oA9}{n m c d:Nat}{xs ys:List α}(h:Blk w g t #[.slice A n c,.slice B m d])(h1:R w A n c xs)(h2:R w B m d ys):zaB R w (some ⟨g,0,none⟩) 2 [xs,ys]:=by
 refine⟨rfl,λi L hi=>?_⟩
 have hlx:=hR.len h1
 have hly:=hR.len h2
 match i,hi with
 |0,hi=>
   obtain rfl:xs=L:=by simpa using hi
   rw [hlx]
   exact⟨_,A,c,rfl,h.lt,by rw [zaP];exact h.cell 0,h1⟩
 |1,hi=>
   obtain rfl:ys=L:=by simpa using hi
   rw [hly]
   exact⟨_,B,d,rfl,h.lt,by rw [zaP];exact h.cell 1,h2⟩
 |i+2,hi=>simp at hi
end
theorem zgf (n:Nat)(hn:n<=1099511627776):∃Z:Array Value,∀W:World,(Instr.makeSlice 26 (.int .i64 (n:Int)) (.int .i64 (n:Int))).run Tryz.prog W=.ok (.slice (some ⟨W.heap.size,0,none⟩) n n) (W.alloc (.cells Z 61))/\zaC (zaI zah) (W.alloc (.cells Z 61)) 61 W.heap.size n (List.replicate n []):=by
 obtain⟨i0,hi0,hz0,hz1,hz2⟩:=info_parts zel
 refine⟨madeCells zdj n,λW=>⟨?_,zaC.made (zam zaf) W _ n⟩⟩
 have h:=zaW (P:=Tryz.prog) _ _ i0 _ Tryz.underlying26 hi0 hz0 .i64 .i64 n n (Nat.le_refl _) (by rw [hz2];omega) (by omega) W
 rw [hz1,Nat.mul_one] at h
 exact h
theorem zfm {P:Program}(w:World){o:Oper}{a:Act}{K:Act->World->Prop}{Q:Exit->Act->World->Prop}(s x:Operand)(t:TypeId)
  (ho:o.op=.call {callee:=.builtin .append,args:=#[s,x],argTypes:=#[t,t]})
  (base:Nat) (e:TypeId) (i:TypeInfo) (z:Value) (size bytes:Nat) (ht:P.underlying t=some (.slice e)) (hi:P.info? e=some i) (hz:i.zero=some z)
  (hsize:i.size=size) (hby:i.bytes=bytes) (hzs:z.cells.size=size) (hsz:0<size)
  (v:Value) (n:Nat) (xs:List Value) (hs:a.eval s=v) (hown:w.ownsRow base e size v n xs)
  (ad:Addr) (m c:Nat) (news:List Value) (hx:a.eval x=.slice (some ad) m c) (hl:news.length=m*size) (hnews:∀j u,news[j]?=some u->w.cell? (ad.add j)=some u) (h1:∀u ∈ news,u.oneCell'=true)
  (h63:n+m<=maxLen) (hbytes:(n+m)*bytes<=140737488355328) (hbase:base<=w.heap.size)
  (hv:zbZ w v) (hzn:∀u ∈ z.cells.toList,zcr u) (hnn:∀u ∈ news,zcr u)
  (h:∀v' w',w'.ownsRow base e size v' (n+m) (xs++news)->w.grownBy w' v.ownBlock->(v'.ownBlock=v.ownBlock\/v'.ownBlock=some w.heap.size)->zbZ w' v'->K (a.put o.dst v') w'):Oper.wp P o a w K Q:=by
 obtain⟨v',w',hr,h2,h3,h4,h5⟩:=zgz (P:=P) w base t o.type e i z size bytes ht hi hz hsize hby hzs hsz v n xs hown ad m c news hl hnews h1 h63 hbytes hbase hv hzn hnn
 unfold Oper.wp execOp
 simp only [ho,resolve,invoke,builtin,Sem.run_bind,Sem.run_pure,Result.andThen_ok,List.map_toArray,List.map_cons,List.map_nil,hs,hx,hr]
 exact h v' w' h2 h3 h4 h5
