/- What this claim leans on. -/
import Derived.Test.YtghpdeciaaagnaaGreatDoorQS8Sum
namespace Go.Proofs.YtghpdeciaaagnaaGreatDoor
open Go Go.RowKit Go.Proofs.Tryz
set_option maxHeartbeats 16000000
set_option linter.unusedVariables false
set_option linter.unusedSimpArgs false
section
variable {α:Type}{E:El α}
theorem row_neS {w:World}{A:oA9}{n c g:Nat}{xs:List α}{t:TypeId}{cs:Array Value}(h:zaM E w A n c xs)(hk:Blk w g t cs)(hs:∀u ∈ cs.toList,∀b,u≠.bool b):0<n->∀ad,A=some ad->ad.block≠g:=λhn a e0 hg=>by
 have hl:=h.len;have h0:0<xs.length:=om9;obtain⟨ad,b,B,m,d,F,u,v,e,h1,h2,h3,h4,h5⟩:=h.num 0 _ (List.getElem?_eq_getElem h0);obtain rfl:a=ad:=by rw [e0] at e;injection e
 have hb:(a.add (0*3)).block=g:=by rw [zah];exact hg
 generalize a.add (0*3)=q at hb h2;obtain⟨bk,off,pr⟩:=q;simp only at hb;subst hb;unfold Blk at hk;cases pr with
 |none=>
   rw [show w.cell? ⟨bk,off,none⟩=cs[off]? from cell_of_row w bk off _ t (0,0) hk,<-Array.getElem?_toList] at h2;exact hs _ (List.mem_of_getElem? h2) b rfl
 |some q=>simp [World.cell?,hk] at h2
theorem zpO {w w':World}{A:oA9}{n c g:Nat}{xs:List α}{t:TypeId}{cs:Array Value}(h:zaM E w A n c xs)(hk:Blk w g t cs)(hs:∀u ∈ cs.toList,∀b,u≠.bool b)(ho:zaV g w w')
  (hE:∀{x:α} {b:Bool} {A:oA9} {n c:Nat} {F:oA9} {k f:Nat},E w x b A n c F k f->E w' x b A n c F k f):zaM E w' A n c xs:=by
 have a:=row_neS h hk hs;refine⟨h.len,h.fits,h.most,λi x hi=>?_⟩;have hl:=h.len;have hlt:=(List.getElem?_eq_some_iff.1 hi).1;obtain⟨ad,b,B,m,d,F,u,v,e,h1,h2,h3,h4,h5⟩:=h.num i x hi;have hc:∀j,w'.cell? (ad.add j)=w.cell? (ad.add j):=λj=>ho.2 _ (by rw [zah];exact h1) (by rw [zah];exact a om9 ad e);exact⟨ad,b,B,m,d,F,u,v,e,Nat.lt_of_lt_of_le h1 ho.1,(hc _).trans h2,(hc _).trans h3,(hc _).trans h4,hE h5⟩
theorem zrk {cs:Array Value}(hs:∀u ∈ cs.toList,zcv u):∀u ∈ cs.toList,∀b,u≠.bool b:=λu hu b e=>by
 obtain⟨A,n,c,e2⟩:=hs u hu;rw [e2] at e;cases e
theorem sl_nou {cs:Array Value}(hs:∀u ∈ cs.toList,zcv u):NoU cs:=λq hq k z e9=>by
 obtain⟨A9,n9,c9,e8⟩:=hs q hq;rw [e8] at e9;cases e9
theorem zhz (hE:zco E){w w':World}{A:oA9}{n c g:Nat}{xs:List α}{t:TypeId}{cs:Array Value}(h:zaM E w A n c xs)(hk:Blk w g t cs)(hs:∀u ∈ cs.toList,zcv u)(ho:zaV g w w'):zaM E w' A n c xs:=
 zpO h hk (zrk hs) ho (λh5=>hE.offg h5 hk (sl_nou hs) ho)
end
abbrev RP (α:Type):=World->oA9->Nat->Nat->List α->Prop
structure zcf {α:Type}(R:RP α):Prop where
 len:∀{w:World} {A:oA9} {n c:Nat} {xs:List α},R w A n c xs->xs.length=n
 below:∀{w w':World} {A:oA9} {n c:Nat} {xs:List α},R w A n c xs->Below w.heap.size w w'->R w' A n c xs
 offS:∀{w w':World} {A:oA9} {n c g:Nat} {xs:List α} {t:TypeId} {cs:Array Value},R w A n c xs->Blk w g t cs->(∀u ∈ cs.toList,zcv u)->zaV g w w'->R w' A n c xs
 nil:∀w:World,R w none 0 0 []
theorem zaA {α:Type}{E:El α}(hE:zco E):zcf (zaM E):=⟨λh=>h.len,λh hb=>h.below hE hb,λh hk hs ho=>zhz hE h hk hs ho,λw=>zaM.nil w⟩
theorem zcf.grown {α:Type}{R:RP α}(hR:zcf R){w w':World}{v:Value}{A:oA9}{n c:Nat}{xs:List α}(h:R w A n c xs)(hg:w.grownBy w' v.ownBlock)(hn:zbM w v):R w' A n c xs:=by
 cases hv:v.ownBlock with
 |none=>rw [hv] at hg;exact hR.below h (zaX hg)
 |some g=>
   rw [hv] at hg;obtain⟨t,cs,hk,hc⟩:=hn.blk hv;exact hR.offS h hk hc (zaV.of_grown hg)
section
variable {α:Type}{R:RP α}
structure zaC (R:RP α)(w:World)(A:oA9)(n:Nat)(Ls:List (List α)):Prop where
 len:Ls.length=n
 num:∀i L,Ls[i]?=some L->∃(ad:Addr) (B:oA9) (d:Nat),A=some ad/\ad.block<w.heap.size/\w.cell? (ad.add i)=some (.slice B L.length d)/\R w B L.length d L
theorem zaC.below (hR:zcf R){w w':World}{A:oA9}{n:Nat}{Ls:List (List α)}(h:zaC R w A n Ls)(hb:Below w.heap.size w w'):zaC R w' A n Ls:=
 ⟨h.len,λi L hi=>by
  obtain⟨ad,B,d,e,h1,h2,h3⟩:=h.num i L hi;exact⟨ad,B,d,e,Nat.lt_of_lt_of_le h1 hb.size,zac hb h2,hR.below h3 hb⟩⟩
theorem zaC.nil (w:World)(A:oA9):zaC R w A 0 []:=⟨rfl,λi L hi=>by simp at hi⟩
theorem zaC.get (hR:zcf R){w wr:World}{A:oA9}{n m:Nat}{Ls:List (List α)}(h:zaC R w A n Ls)(hb:Below w.heap.size w wr){i:Nat}(hi:i<n)(hm:(Ls.getD i []).length=m):∃(ad:Addr) (B:oA9) (d:Nat),A=some ad/\ad.block<w.heap.size/\wr.cell? (ad.add i)=some (.slice B m d)/\R wr B m d (Ls.getD i []):=by
 have hl:=h.len;obtain⟨ad,B,d,e,h1,h2,h3⟩:=h.num i _ (zbi (d:=[]) om9);rw [hm] at h2 h3;exact⟨ad,B,d,e,h1,zac hb h2,hR.below h3 hb⟩
theorem zaC.off {w w':World}{A:oA9}{n g:Nat}{Ls:List (List α)}(h:zaC R w A n Ls)(hf:∀ad,A=some ad->ad.block≠g)(ho:zaV g w w')(a:∀{B:oA9} {m d:Nat} {L:List α},R w B m d L->R w' B m d L):zaC R w' A n Ls:=
 ⟨h.len,λi L hi=>by
  obtain⟨ad,B,d,e,h1,h2,h3⟩:=h.num i L hi;exact⟨ad,B,d,e,Nat.lt_of_lt_of_le h1 ho.1,(ho.2 _ (by rw [zah];exact h1) (by rw [zah];exact hf ad e)).trans h2,a h3⟩⟩
structure zaT (R:RP α)(w:World)(t:TypeId)(g n:Nat)(Ls:List (List α)):Prop where
 len:Ls.length=n
 blk:∃cs:Array Value,Blk w g t cs/\(∀u ∈ cs.toList,zcv u)/\cs.size=n
 num:∀i L,Ls[i]?=some L->∃(B:oA9) (d:Nat),w.cell? ⟨g,i,none⟩=some (.slice B L.length d)/\R w B L.length d L
theorem zaT.lt {w:World}{t:TypeId}{g n:Nat}{Ls:List (List α)}(h:zaT R w t g n Ls):g<w.heap.size:=by
 obtain⟨cs,hk,_⟩:=h.blk;exact hk.lt
theorem zaT.below (hR:zcf R){w w':World}{t:TypeId}{g n:Nat}{Ls:List (List α)}(h:zaT R w t g n Ls)(hb:Below w.heap.size w w'):zaT R w' t g n Ls:=by
 refine⟨h.len,?_,λi x hi=>?_⟩
 ·obtain⟨cs,hk,h1,h2⟩:=h.blk;exact⟨cs,zab hb hk,h1,h2⟩
 ·obtain⟨B,d,h1,h2⟩:=h.num i x hi;exact⟨B,d,zac hb h1,hR.below h2 hb⟩
theorem zaT.rows {w:World}{t:TypeId}{g n:Nat}{Ls:List (List α)}(h:zaT R w t g n Ls):zaC R w (some ⟨g,0,none⟩) n Ls:=
 ⟨h.len,λi x hi=>by
  obtain⟨B,d,h1,h2⟩:=h.num i x hi;exact⟨_,B,d,rfl,h.lt,by rw [zar];exact h1,h2⟩⟩
theorem zaT.ready {w:World}{t:TypeId}{g n:Nat}{Ls:List (List α)}(h:zaT R w t g n Ls){i:Nat}(hi:i<n):∃a:Value,w.cell? ⟨g,i,none⟩=some a/\w.frozen? ⟨g,i,none⟩=false:=by
 obtain⟨cs,hk,h1,h2⟩:=h.blk;have e0:i<cs.size:=om9;exact⟨_,(hk.cell _).trans (Array.getElem?_eq_getElem e0),hk.frozen _⟩
theorem zaT.set_ (hR:zcf R){w:World}{t:TypeId}{g n m:Nat}{Ls:List (List α)}(h:zaT R w t g n Ls){i:Nat}(hi:i<n){L:List α}{B:oA9}{d:Nat}(hx:R w B m d L)(hm:L.length=m):
  zaT R (w.setCell ⟨g,i,none⟩ (.slice B m d)) t g n (Ls.set i L):=by
 subst hm;obtain⟨cs,hk,h1,h2⟩:=h.blk;have ho:zaV g w (w.setCell ⟨g,i,none⟩ (.slice B L.length d)):=zaV.of_far ((zbp.refl g w).set_ i _);have a:=hk.set_ i (.slice B L.length d);refine⟨by rw [List.length_set];exact h.len,⟨_,a,?_,by simp;exact h2⟩,λj y hj=>?_⟩
 ·intro u hu;rw [Array.toList_setIfInBounds] at hu;rcases List.mem_or_eq_of_mem_set hu with hu|rfl
  ·exact h1 u hu
  ·exact⟨_,_,_,rfl⟩
 ·by_cases hij:i=j
  ·subst hij;have hl:=h.len;rw [List.getElem?_set_self om9] at hj;injection hj with hj;subst hj;refine⟨B,d,?_,hR.offS hx hk h1 ho⟩;rw [a.cell,Array.getElem?_setIfInBounds_self_of_lt om9]
  ·rw [List.getElem?_set_ne hij] at hj;obtain⟨B',d',c1,c2⟩:=h.num j y hj;refine⟨B',d',?_,hR.offS c2 hk h1 ho⟩;rw [a.cell,Array.getElem?_setIfInBounds_ne om9,<-hk.cell];exact c1
def zdP:Array Value:=#[.slice none 0 0]
theorem znL (n:Nat):∀u ∈(madeCells zdP n).toList,zcv u:=by
 intro v hv;rw [Array.mem_toList_iff,Array.mem_iff_getElem?] at hv;obtain⟨j,hj⟩:=hv;have a:j<n:=by
  have:=(Array.getElem?_eq_some_iff.1 hj).1;rwa [size_madeCells] at this
 rw [zbI _ _ _ a,show zdP.size=1 from rfl,Nat.mod_one] at hj;simp [zdP] at hj;exact⟨_,_,_,hj.symm⟩
theorem zaT.made (hR:zcf R)(w:World)(t:TypeId)(n:Nat):zaT R (w.alloc (.cells (madeCells zdP n) t)) t w.heap.size n (List.replicate n []):=by
 have hk:=Blk.new w t (madeCells zdP n);refine⟨si9,⟨_,hk,znL _,size_madeCells _ _⟩,λi x hi=>?_⟩;have a:i<n:=by
  have:=(List.getElem?_eq_some_iff.1 hi).1;simpa using this
 obtain rfl:[]=x:=by
  rw [List.getElem?_replicate,if_pos a] at hi;injection hi
 refine⟨none,0,?_,hR.nil _⟩;rw [hk.cell,zbI _ _ _ a,show zdP.size=1 from rfl,Nat.mod_one];rfl
structure zbN (R:RP α)(w:World)(base:Nat)(t:TypeId)(v:Value)(Ls:List (List α))(vs:List Value):Prop where
 own:w.ownsRow base t 1 v Ls.length vs
 sl:zbM w v
 num:∀(i:Nat) (L:List α),Ls[i]?=some L->∃(B:oA9) (d:Nat),vs[i]?=some (Value.slice B L.length d)/\R w B L.length d L
theorem zbN.nil (w:World)(a:Nat)(t:TypeId):zbN R w a t (.slice none 0 0) [] []:=⟨World.ownsRow_nil _ _ _ _,zbM.nil _ _,λi L hi=>by simp at hi⟩
theorem zbN.len {w:World}{a:Nat}{t:TypeId}{v:Value}{Ls:List (List α)}{vs:List Value}(h:zbN R w a t v Ls vs):vs.length=Ls.length:=by have:=h.own.1;omega
theorem zbN.shape {w:World}{a n:Nat}{t:TypeId}{v:Value}{Ls:List (List α)}{vs:List Value}(h:zbN R w a t v Ls vs)(hn:Ls.length=n):∃A c,v=.slice A n c/\n<=c/\c<=9223372036854775807/\zaC R w A n Ls/\∀ad,A=some ad->a<=ad.block:=by
 subst hn;rcases h.own.2 with⟨rfl,h0⟩|⟨g,cap,cur,rfl,hbg,hg,hnc,hcm,hcs,htake⟩
 ·have hx:Ls=[]:=List.eq_nil_of_length_eq_zero h0;subst hx;exact⟨none,0,rfl,Nat.le_refl _,de9,zaC.nil w none,λad e=>by cases e⟩
 ·have b:=h.own.cells (g:=g) rfl;refine⟨some ⟨g,0,none⟩,cap,rfl,hnc,by unfold maxLen at hcm;omega,⟨rfl,λi L hi=>?_⟩,λad e=>by injection e with e;subst e;exact hbg⟩;obtain⟨B,d,hv,hw⟩:=h.num i L hi;exact⟨_,B,d,rfl,(Array.getElem?_eq_some_iff.1 hg).1,b _ _ hv,hw⟩
theorem zbN.below (hR:zcf R){w w':World}{a:Nat}{t:TypeId}{v:Value}{Ls:List (List α)}{vs:List Value}(h:zbN R w a t v Ls vs)(hb:Below w.heap.size w w'):zbN R w' a t v Ls vs:=by
 refine⟨⟨h.own.1,?_⟩,h.sl.below hb,λi L hi=>?_⟩
 ·rcases h.own.2 with h1|⟨g,cap,cur,e1,e2,e3,e4⟩
  ·exact .inl h1
  ·exact .inr ⟨g,cap,cur,e1,e2,(hb.block g (Blk.lt (t:=t) (cs:=cur) e3)).trans e3,e4⟩
 ·obtain⟨B,d,hv,hw⟩:=h.num i L hi;exact⟨B,d,hv,hR.below hw hb⟩
theorem zbN.grow (hR:zcf R){w w':World}{a n m:Nat}{t:TypeId}{v v':Value}{Ls:List (List α)}{vs:List Value}{L:List α}{B:oA9}{d:Nat}(h:zbN R w a t v Ls vs)(hx:R w B m d L)(hm:L.length=m)
  (ho:w'.ownsRow a t 1 v' n (vs++[.slice B m d])) (hn:n=Ls.length+1) (hg:w.grownBy w' v.ownBlock) (hs:zbM w' v'):zbN R w' a t v' (Ls++[L]) (vs++[.slice B m d]):=by
 subst hm;have hl:=h.len;refine⟨by rw [List.length_append,List.length_singleton,<-hn];exact ho,hs,λi M hi=>?_⟩;by_cases hlt:i<Ls.length
 ·rw [List.getElem?_append_left hlt] at hi;obtain⟨C,e,hv,hw⟩:=h.num i M hi;exact⟨C,e,by rw [List.getElem?_append_left om9];exact hv,hR.grown hw hg h.sl⟩
 ·rw [List.getElem?_append_right om9] at hi;have b:i=Ls.length:=by
   have:=(List.getElem?_eq_some_iff.1 hi).1;simp at this;omega
  subst b;obtain rfl:L=M:=by
   rw [Nat.sub_self] at hi;injection hi
  exact⟨B,d,by rw [List.getElem?_append_right om9,hl,Nat.sub_self];rfl,hR.grown hx hg h.sl⟩
theorem zkR (hR:zcf R){w:World}{g:Nat}{t:TypeId}{A B:oA9}{n m c d:Nat}{xs ys:List α}(h:Blk w g t #[.slice A n c,.slice B m d])(h1:R w A n c xs)(h2:R w B m d ys):zaC R w (some ⟨g,0,none⟩) 2 [xs,ys]:=by
 refine⟨rfl,λi L hi=>?_⟩;have a:=hR.len h1;have b:=hR.len h2
 match i,hi with
 |0,hi=>
   obtain rfl:xs=L:=by simpa using hi
   rw [a];exact⟨_,A,c,rfl,h.lt,by rw [zar];exact h.cell 0,h1⟩
 |1,hi=>
   obtain rfl:ys=L:=by simpa using hi
   rw [b];exact⟨_,B,d,rfl,h.lt,by rw [zar];exact h.cell 1,h2⟩
 |i+2,hi=>simp at hi
end
theorem zhT (n:Nat)(hn:n<=1099511627776):∃Z:Array Value,∀W:World,(Instr.makeSlice 26 (.int .i64 (n:Int)) (.int .i64 (n:Int))).run prog W=.ok (.slice (some ⟨W.heap.size,0,none⟩) n n) (W.alloc (.cells Z 61))/\zaT (zaM zaf) (W.alloc (.cells Z 61)) 61 W.heap.size n (List.replicate n []):=by
 obtain⟨i0,a,b,c,d⟩:=info_parts zgq;refine⟨madeCells zdP n,λW=>⟨?_,zaT.made (zaA zak) W _ n⟩⟩;have h:=zbf (P:=prog) _ _ i0 _ underlying26 a b .i64 .i64 n n (Nat.le_refl _) (by rw [d];omega) om9 W;rw [c,Nat.mul_one] at h;exact h
theorem zfy {P:Program}(w:World){o:Oper}{a:Act}{K:Act->World->Prop}{Q:Exit->Act->World->Prop}(s x:Operand)(t:TypeId)
  (ho:o.op=.call {callee:=.builtin .append,args:=#[s,x],argTypes:=#[t,t]})
  (d:Nat) (e:TypeId) (i:TypeInfo) (z:Value) (size bytes:Nat) (ht:P.underlying t=some (.slice e)) (hi:P.info? e=some i) (hz:i.zero=some z)
  (l:i.size=size) (A:i.bytes=bytes) (D:z.cells.size=size) (hsz:0<size)
  (v:Value) (n:Nat) (xs:List Value) (hs:a.eval s=v) (r:w.ownsRow d e size v n xs)
  (ad:Addr) (m c:Nat) (b:List Value) (hx:a.eval x=.slice (some ad) m c) (hl:b.length=m*size) (k:∀j u,b[j]?=some u->w.cell? (ad.add j)=some u) (h1:∀u ∈ b,u.oneCell'=true)
  (y:n+m<=maxLen) (f:(n+m)*bytes<=140737488355328) (g:d<=w.heap.size)
  (hv:zbM w v) (C:∀u ∈ z.cells.toList,zcv u) (B:∀u ∈ b,zcv u)
  (h:∀v' w',w'.ownsRow d e size v' (n+m) (xs++b)->w.grownBy w' v.ownBlock->(v'.ownBlock=v.ownBlock\/v'.ownBlock=some w.heap.size)->zbM w' v'->K (a.put o.dst v') w'):Oper.wp P o a w K Q:=by
 obtain⟨v',w',hr,h2,h3,h4,h5⟩:=zgF (P:=P) w d t o.type e i z size bytes ht hi hz l A D hsz v n xs r ad m c b hl k h1 y f g hv C B;unfold Oper.wp execOp;simp only [ho,resolve,invoke,builtin,Sem.run_bind,Sem.run_pure,Result.andThen_ok,List.map_toArray,List.map_cons,List.map_nil,hs,hx,hr];exact h v' w' h2 h3 h4 h5
set_option maxRecDepth 100000
def NoK (k:IntKind)(cs:Array Value):Prop:=∀v ∈ cs.toList,∀z,v≠.int k z
theorem zre {w:World}{A:oA9}{n g:Nat}{k:IntKind}{l:List Nat}{t:TypeId}{cs:Array Value}(h:zaw w w.heap.size 1 A n (zaF k l))(hk:Blk w g t cs)(a:NoK k cs):0<n->∀ad,A=some ad->ad.block≠g:=λhn ad e hg=>by
 have hl:=h.len_;obtain⟨ad',e',_,hc⟩:=h.2 hn;rw [e] at e';injection e' with e';subst e';have h0:=hc 0 (.int k (l.getD 0 0:Nat)) (zdc k _ 0 om9);have e0:ad.add 0=ad:=by unfold Addr.add;rw [if_pos rfl]
 rw [e0] at h0;obtain⟨bk,off,pr⟩:=ad;simp only at hg;subst hg;unfold Blk at hk;cases pr with
 |none=>
   rw [show w.cell? ⟨bk,off,none⟩=cs[off]? from cell_of_row w bk off _ t (0,0) hk,<-Array.getElem?_toList] at h0;exact a _ (List.mem_of_getElem? h0) _ rfl
 |some q=>simp [World.cell?,hk] at h0
theorem zjY {w w':World}{x:Nat}{A:oA9}{n c g:Nat}{t:TypeId}{cs:Array Value}(h:zad w x A n c)(hk:Blk w g t cs)(a:NoK .u64 cs)(ho:zaV g w w'):zad w' x A n c:=by
 have b:=zre h.1 hk a;refine⟨⟨h.1.1,λhn=>?_⟩,h.2⟩;obtain⟨ad,e,hb,hc⟩:=h.1.2 hn;refine⟨ad,e,Nat.lt_of_lt_of_le hb ho.1,λj v hv=>?_⟩;rw [ho.2 (ad.add j) (by rw [zah];exact hb) (by rw [zah];exact b hn ad e)];exact hc j v hv
theorem zaz {w w':World}{g:Nat}{t:TypeId}{cs:Array Value}(hk:Blk w g t cs)(a:NoK .u64 cs)(ho:zaV g w w'){r:Rat}{b:Bool}{A:oA9}{n c:Nat}{E:oA9}{k f:Nat}(h:zaf w r b A n c E k f):zaf w' r b A n c E k f:=by
 obtain⟨⟨h1,h2⟩,x,e,h3⟩:=h;exact⟨⟨h1,zjY h2 hk a ho⟩,x,e,zjY h3 hk a ho⟩
theorem zpB (A:oA9)(n c:Nat)(z:Int):NoK .u64 #[.slice A n c,.int .i64 z]:=by intro v hv z9 e;simp at hv;rcases hv with rfl|rfl<;>cases e
theorem zjw (A:oA9)(n c:Nat)(z:Int):∀u ∈(#[.slice A n c,.int .i64 z]:Array Value).toList,∀b,u≠.bool b:=by intro v hv b e;simp at hv;rcases hv with rfl|rfl<;>cases e
theorem znC {w w':World}{A:oA9}{n c g:Nat}{xs:List Rat}{t:TypeId}{cs:Array Value}(h:zaH w A n c xs)(hk:Blk w g t cs)(hs:∀u ∈ cs.toList,∀b,u≠.bool b)(a:NoK .u64 cs)(ho:zaV g w w'):zaH w' A n c xs:=
 zpO h hk hs ho (λh5=>zaz hk a ho h5)
def ziY (w:World)(b:Nat)(t:TypeId):Prop:=∃cs,Blk w b t cs
theorem ziY.below {w w':World}{b:Nat}{t:TypeId}(h:ziY w b t)(hb:Below w.heap.size w w'):ziY w' b t:=by
 obtain⟨cs,hk⟩:=h;exact⟨cs,zab hb hk⟩
theorem ziY.set_ {w:World}{b:Nat}{t:TypeId}(h:ziY w b t)(g i:Nat)(v:Value):ziY (w.setCell ⟨g,i,none⟩ v) b t:=by
 obtain⟨cs,hk⟩:=h;by_cases hg:b=g
 ·subst hg;exact⟨_,hk.set_ i v⟩
 ·exact⟨cs,Blk.far (p:=⟨g,i,none⟩) hk hg v⟩
theorem ziY.ne {w:World}{b g:Nat}{t s:TypeId}{cs:Array Value}(h:ziY w b t)(hk:Blk w g s cs)(hn:t≠s):b≠g:=λe=>by
 obtain⟨ds,hd⟩:=h;subst e;unfold Blk at hd hk;rw [hd] at hk;injection hk with hk;injection hk with _ hk;exact hn hk
structure zbL (w:World)(A:oA9)(n c m:Nat)(M:List (List Rat)):Prop where
 dims:zaY M n m
 fits:n<=c
 most:c<=9223372036854775807
 hn:n<=64
 hm:m<=64
 rows:zaC (zaM zaf) w A n M
 ty:∀ad,A=some ad->ziY w ad.block 61
theorem zbL.keep {w w':World}{A:oA9}{n c m:Nat}{M:List (List Rat)}(h:zbL w A n c m M)(hb:Below w.heap.size w w'):zbL w' A n c m M:={h with rows:=h.rows.below (zaA zak) hb,ty:=λad e=>(h.ty ad e).below hb}
theorem zbL.nil (w:World):zbL w none 0 0 0 []:=⟨zmt 0,Nat.le_refl _,de9,de9,de9,zaC.nil w none,λad e=>by cases e⟩
theorem zbL.offz {w:World}{A:oA9}{n c m g:Nat}{M:List (List Rat)}{t:TypeId}{B:oA9}{p q:Nat}{z:Int}(h:zbL w A n c m M)(hk:Blk w g t #[.slice B p q,.int .i64 z])(x y:Value)(ht:61≠t:=by decide):zbL ((w.setCell ⟨g,0,none⟩ x).setCell ⟨g,1,none⟩ y) A n c m M:=
 { h with
  rows:=h.rows.off (λad e=>(h.ty ad e).ne hk ht) (zaV.of_far (ziB _ _ _ _)) (λh3=>znC h3 hk (zjw _ _ _ _) (zpB _ _ _ _) (zaV.of_far (ziB _ _ _ _)))
  ty:=λad e=>((h.ty ad e).set_ _ _ _).set_ _ _ _}
theorem zaH.offz {w:World}{A:oA9}{n c g:Nat}{xs:List Rat}{t:TypeId}{B:oA9}{p q:Nat}{z:Int}(h:zaH w A n c xs)(hk:Blk w g t #[.slice B p q,.int .i64 z])(x y:Value):zaH ((w.setCell ⟨g,0,none⟩ x).setCell ⟨g,1,none⟩ y) A n c xs:=
 znC h hk (zjw _ _ _ _) (zpB _ _ _ _) (zaV.of_far (ziB _ _ _ _))
theorem zbL.row {w wr:World}{A:oA9}{n c m:Nat}{M:List (List Rat)}(h:zbL w A n c m M)(hb:Below w.heap.size w wr){i:Nat}(hi:i<n):∃(ad:Addr) (B:oA9) (d:Nat),A=some ad/\ad.block<w.heap.size/\wr.cell? (ad.add i)=some (.slice B m d)/\zaH wr B m d (M.getD i []):=
 h.rows.get (zaA zak) hb hi (h.dims.row hi)
theorem zbL.place {w wr:World}{A:oA9}{n c m:Nat}{M:List (List Rat)}(h:zbL w A n c m M)(hb:Below w.heap.size w wr){i j:Nat}(hi:i<n)(hj:j<m):∃(ad:Addr) (B:oA9) (d:Nat),A=some ad/\ad.block<w.heap.size/\wr.cell? (ad.add i)=some (.slice B m d)/\
  ∃(ae:Addr) (b1:Bool) (B1:oA9) (m1 d1:Nat) (E1:oA9) (u1 v1:Nat),B=some ae/\ae.block<wr.heap.size/\wr.cell? (ae.add (j*3))=some (.bool b1)/\wr.cell? ⟨(ae.add (j*3)).block,(ae.add (j*3)).off+1,none⟩=some (.slice B1 m1 d1)/\wr.cell? ⟨(ae.add (j*3)).block,(ae.add (j*3)).off+2,none⟩=some (.slice E1 u1 v1)/\zaf wr (atM M i j) b1 B1 m1 d1 E1 u1 v1:=by
 obtain⟨ad,B,d,e,h1,h2,h3⟩:=h.row hb hi;obtain⟨ae,b1,B1,m1,d1,E1,u1,v1,e4,h4,h5,h6,h7,h8⟩:=h3.get (Below.refl _ _) hj;exact⟨ad,B,d,e,h1,h2,ae,b1,B1,m1,d1,E1,u1,v1,e4,h4,h5,h6,h7,h8⟩
def zaO (K:Nat)(M:List (List Rat)):Prop:=∀L ∈ M,zat K L
theorem zaO.up {K K':Nat}{M:List (List Rat)}(h:zaO K M)(e:K<=K'):zaO K' M:=λL hL=>(h L hL).up e
theorem zaO.row {K i:Nat}{M:List (List Rat)}(h:zaO K M)(hi:i<M.length):zat K (M.getD i []):=h _ (List.mem_of_getElem? (zbi hi))
theorem zaO.at_ {K n m i j:Nat}{M:List (List Rat)}(h:zaO K M)(hd:zaY M n m)(hi:i<n)(hj:j<m):SzQ K (atM M i j):=by
 have hl:=hd.rows;have hr:=hd.row hi;exact(h.row (i:=i) om9).at_ om9
theorem zaO.nil (K:Nat):zaO K []:=λL hL=>by cases hL
theorem zaO.tab {K n m:Nat}{f:Nat->Nat->Rat}(h:∀r c,r<n->c<m->SzQ K (f r c)):zaO K (zbz n m f):=λL hL x hx=>by
 unfold zbz at hL;obtain⟨r,hr,rfl⟩:=List.mem_map.1 hL;obtain⟨c,hc,rfl⟩:=List.mem_map.1 hx;exact h r c (List.mem_range.1 hr) (List.mem_range.1 hc)
theorem zaO.turn {K n m:Nat}{M:List (List Rat)}(h:zaO K M)(hd:zaY M n m):zaO K (zeC n m M):=zaO.tab λr c hr hc=>h.at_ hd hc hr
theorem zaO.col {K n m c:Nat}{M:List (List Rat)}(h:zaO K M)(hd:zaY M n m)(hc:c<m):zat K (zhh n M c):=λx hx=>by
 unfold zhh at hx;obtain⟨r,hr,rfl⟩:=List.mem_map.1 hx;exact h.at_ hd (List.mem_range.1 hr) hc
theorem zaO.mul {K K' n k m:Nat}{A B:List (List Rat)}(hA:zaO K A)(hB:zaO K' B)(dA:zaY A n k)(dB:zaY B k m):zaO (1+k*(K+K'+1)) (zhV n k m A B):=zaO.tab λr c hr hc=>by
 have hl:=dA.rows;exact dot_sz (dA.row hr) (zhi k B c) (hA.row om9) (hB.col dB hc)
def zcr (w:World)(n m:Nat)(M:List (List Rat))(e:Ending)(w':World):Prop:=∃(A:oA9) (c:Nat),e=.returned (.agg #[.slice A n c,.int .i64 (m:Int)])/\zbL w' A n c m M/\(∀ad,A=some ad->w.heap.size<=ad.block)/\Below w.heap.size w w'
def zgj (w:World)(n m:Nat)(M:List (List Rat))(e:Ending)(w':World):Prop:=∃(A:oA9) (c:Nat),e=.returned (.tuple #[.agg #[.slice A n c,.int .i64 (m:Int)],.bool true])/\zbL w' A n c m M/\(∀ad,A=some ad->w.heap.size<=ad.block)/\Below w.heap.size w w'
theorem gm2 {w W:World}{A B:oA9}{n c m g p q:Nat}{z:Int}{M:List (List Rat)}(h:zbL W A n c m M)(hf:∀ad,A=some ad->g<ad.block)(k:Blk W g 28 #[.slice B p q,.int .i64 z])(hB:Below w.heap.size w W)(hg:w.heap.size<=g):
  zcr w n m M (.returned (.agg #[.slice A n c,.int .i64 (m:Int)])) ((W.setCell ⟨g,0,none⟩ (.slice A n c)).setCell ⟨g,1,none⟩ (.int .i64 (m:Int))):=
 ⟨A,c,rfl,h.offz k _ _,λad e=>by have:=hf ad e;omega,bl2 _ _ hg hB⟩
theorem gmb2 {w W:World}{A B:oA9}{n c m g p q:Nat}{z:Int}{M:List (List Rat)}(h:zbL W A n c m M)(hf:∀ad,A=some ad->g<ad.block)(k:Blk W g 28 #[.slice B p q,.int .i64 z])(hB:Below w.heap.size w W)(hg:w.heap.size<=g):
  zgj w n m M (.returned (.tuple #[.agg #[.slice A n c,.int .i64 (m:Int)],.bool true])) ((W.setCell ⟨g,0,none⟩ (.slice A n c)).setCell ⟨g,1,none⟩ (.int .i64 (m:Int))):=
 ⟨A,c,rfl,h.offz k _ _,λad e=>by have:=hf ad e;omega,bl2 _ _ hg hB⟩
theorem zcR (A:oA9)(n c:Nat)(z:Int)(w:World):Calls prog 22 #[.agg #[.slice A n c,.int .i64 z]] w (λe w'=>e=.returned (.int .i64 (n:Int))/\Below w.heap.size w w'):=by
 obtain⟨a,b,bz⟩:=zax w 28 #[.slice A n c,.int .i64 z];obtain⟨g0,g1⟩:=b.c2;have HB:=lh9 a;clear a b bz;go_enter func22,ntmps22;go_wp2;go_ret;exact⟨rfl,HB.out⟩
theorem zmY (A:oA9)(n c:Nat)(z:Int)(w:World):Calls prog 27 #[.agg #[.slice A n c,.int .i64 z]] w (λe w'=>e=.returned (.int .i64 z)/\Below w.heap.size w w'):=by
 obtain⟨a,b,bz⟩:=zax w 28 #[.slice A n c,.int .i64 z];obtain⟨g0,g1⟩:=b.c2;have HB:=lh9 a;clear a b bz;go_enter func27,ntmps27;go_wp2;go_ret;exact⟨rfl,HB.out⟩
def ziA (r c:Int):Bool:=decide (0<=r)&&decide (r<=64)&&decide (0<=c)&&decide (c<=64)
theorem znb {n m:Nat}(hn:n<=64)(hm:m<=64):ziA (n:Int) (m:Int)=true:=by
 unfold ziA;rw [decide_eq_true (show(0:Int)<=(n:Int) by omega),decide_eq_true (show(n:Int)<=64 by omega),decide_eq_true (show(0:Int)<=(m:Int) by omega),decide_eq_true (show(m:Int)<=64 by omega)];rfl
theorem mat_may (r c:Int)(w:World):Calls prog 93 #[.int .i64 r,.int .i64 c] w (λe w'=>e=.returned (.bool (ziA r c))/\w=w'):=by
 by_cases h1:0<=r
 ·have d1:decide (0<=r)=true:=decide_eq_true h1;by_cases h2:r<=64
  ·have d2:decide (r<=64)=true:=decide_eq_true h2;by_cases h3:0<=c
   ·have d3:decide (0<=c)=true:=decide_eq_true h3;obtain⟨b,d4⟩:∃b,decide (c<=64)=b:=⟨_,rfl⟩;have e:ziA r c=b:=by unfold ziA;rw [d1,d2,d3,d4];rfl
    rw [e];clear h1 h2 h3 e;go_enter func93,ntmps93;go_wp2;go_ret;exact⟨rfl,rfl⟩
   ·have d3:decide (0<=c)=false:=decide_eq_false h3;have e:ziA r c=false:=by unfold ziA;rw [d1,d2,d3];rfl
    rw [e];clear h1 h2 h3 e;go_enter func93,ntmps93;go_wp2;go_ret;exact⟨rfl,rfl⟩
  ·have d2:decide (r<=64)=false:=decide_eq_false h2;have e:ziA r c=false:=by unfold ziA;rw [d1,d2];rfl
   rw [e];clear h1 h2 e;go_enter func93,ntmps93;go_wp2;go_ret;exact⟨rfl,rfl⟩
 ·have d1:decide (0<=r)=false:=decide_eq_false h1;have e:ziA r c=false:=by unfold ziA;rw [d1];rfl
  rw [e];clear h1 e;go_enter func93,ntmps93;go_wp2;go_ret;exact⟨rfl,rfl⟩
def inB (r:Int)(n:Nat):Bool:=decide (0<=r)&&decide (r<(n:Int))
theorem zlv {k n:Nat}(h:k<n):inB (k:Int) n=true:=by
 unfold inB;rw [decide_eq_true (show(0:Int)<=(k:Int) by omega),decide_eq_true (show(k:Int)<(n:Int) by omega)];rfl
theorem zoC (A:oA9)(n c:Nat)(z r:Int)(w:World):Calls prog 84 #[.agg #[.slice A n c,.int .i64 z],.int .i64 r] w (λe w'=>e=.returned (.bool (inB r n))/\Below w.heap.size w w'):=by
 obtain⟨a,d,bz⟩:=zax w 28 #[.slice A n c,.int .i64 z];obtain⟨g0,g1⟩:=d.c2;have HB:=lh9 a;clear a d bz;by_cases h1:0<=r
 ·have d1:decide (0<=r)=true:=decide_eq_true h1;obtain⟨b,d4⟩:∃b,decide (r<(n:Int))=b:=⟨_,rfl⟩;have e:inB r n=b:=by unfold inB;rw [d1,d4];rfl
  rw [e];clear h1 e;have H:=λW=>lh9 (zcR A n c z W);go_enter func84,ntmps84;go_wp2_with fail;refine(H _).out.mono ?_;rintro e w1 ⟨rfl,hb⟩;have f:=lh9 (zaa HB.out hb);clear hb;go_wp2;go_ret;exact⟨rfl,f.out⟩
 ·have d1:decide (0<=r)=false:=decide_eq_false h1;have e:inB r n=false:=by unfold inB;rw [d1];rfl
  rw [e];clear h1 e;go_enter func84,ntmps84;go_wp2;go_ret;exact⟨rfl,HB.out⟩
theorem zoB (A:oA9)(n c m:Nat)(r:Int)(w:World):Calls prog 121 #[.agg #[.slice A n c,.int .i64 (m:Int)],.int .i64 r] w (λe w'=>e=.returned (.bool (inB r m))/\Below w.heap.size w w'):=by
 obtain⟨a,d,bz⟩:=zax w 28 #[.slice A n c,.int .i64 (m:Int)];obtain⟨g0,g1⟩:=d.c2;have HB:=lh9 a;clear a d bz;by_cases h1:0<=r
 ·have d1:decide (0<=r)=true:=decide_eq_true h1;obtain⟨b,d4⟩:∃b,decide (r<(m:Int))=b:=⟨_,rfl⟩;have e:inB r m=b:=by unfold inB;rw [d1,d4];rfl
  rw [e];clear h1 e;go_enter func121,ntmps121;go_wp2;go_ret;exact⟨rfl,HB.out⟩
 ·have d1:decide (0<=r)=false:=decide_eq_false h1;have e:inB r m=false:=by unfold inB;rw [d1];rfl
  rw [e];clear h1 e;go_enter func121,ntmps121;go_wp2;go_ret;exact⟨rfl,HB.out⟩
